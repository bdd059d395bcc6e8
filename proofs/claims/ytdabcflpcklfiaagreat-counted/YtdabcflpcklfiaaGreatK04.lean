import Derived.Test.YtdabcflpcklfiaaGreatK02
import Derived.Laws.AppendOwn
/- A kernel's machine in memory; who is ready, and who has the tick. -/
namespace Go.Proofs.YtdabcflpcklfiaaGreat
open Go.RowKit Cad

/-- The block of a job that is not done. -/
def live (S : Sy) (m : Mc) (Y : Lay) (t i : Nat) : Option Nat := if t < S.n ∧ m.done t ≤ i ∧ i < m.done t + (m.q t).length then some (Y.jb t i) else none

def recC (r : Rc) : List Value := [.int .i64 r.task, .int .i64 r.arr, .int .i64 r.rel, .int .i64 r.done, .int .i64 r.left, .int .i64 r.ord]
def keptC (l : List Rc) : List Value := l.flatMap recC

structure MAt (w : World) (S : Sy) (m : Mc) (Y : Lay) : Prop where
  mrow : w.rowIs Y.mb 142 22 (mcell S m Y)
  trow : w.rowIs Y.tb 145 (S.n * 7) (tcell S m Y)
  prow : ∀ t, t < S.n → StepRow w (Y.pb t) (Y.pc t) (S.K t) (S.N t) (S.L t)
  jmap : JMap w Y.jm m.arrd.toNat (live S m Y)
  jrow : ∀ t, t < S.n → ∀ i j, (m.q t)[i]? = some j → w.rowIs (Y.jb t (m.done t + i)) 160 7 (jcell t j (-1) (restV (Y.rb t (m.done t + i)) (Y.rc t (m.done t + i)) (S.L t) j.p)) ∧ StepRow w (Y.rb t (m.done t + i)) (Y.rc t (m.done t + i)) (S.K t) j.N (S.L t)
  kept : w.ownsRow 0 158 6 Y.kv m.kept.length (keptC m.kept)

abbrev isLive (S : Sy) (m : Mc) (t i : Nat) : Prop := t < S.n ∧ m.done t ≤ i ∧ i < m.done t + (m.q t).length

/-- No two jobs share memory. -/
structure Sep (S : Sy) (m : Mc) (Y : Lay) : Prop where
  jobs : ∀ t i t' i', isLive S m t i → isLive S m t' i' → Y.jb t i = Y.jb t' i' → t = t' ∧ i = i'
  rests : ∀ t i t' i', isLive S m t i → isLive S m t' i' → Y.rb t i = Y.rb t' i' → t = t' ∧ i = i'
  progs : ∀ t i t', isLive S m t i → t' < S.n → Y.rb t i ≠ Y.pb t'

/-- The blocks that are the kernel's own. -/
def foot (S : Sy) (m : Mc) (Y : Lay) (b : Nat) : Prop :=
  b = Y.mb ∨ b = Y.tb ∨ b = Y.jm ∨ (∃ t, t < S.n ∧ b = Y.pb t) ∨ (∃ t i, isLive S m t i ∧ (b = Y.jb t i ∨ b = Y.rb t i)) ∨ Y.kv.ownBlock = some b

theorem ownsRow_of_block {w w' : World} {base e size : Nat} {v : Value} {n : Nat} {xs : List Value} (h : w.ownsRow base e size v n xs) (hb : ∀ b, v.ownBlock = some b → w'.heap[b]? = w.heap[b]?) : w'.ownsRow base e size v n xs := by
  obtain ⟨hl, h | ⟨g, cap, cur, rfl, h1, h2, h3⟩⟩ := h
  · exact ⟨hl, .inl h⟩
  · exact ⟨hl, .inr ⟨g, cap, cur, rfl, h1, (hb g rfl).trans h2, h3⟩⟩

theorem live_of_get {S : Sy} {m : Mc} {t i : Nat} {j : Jb} (ht : t < S.n) (h : (m.q t)[i]? = some j) : isLive S m t (m.done t + i) := by
  have := (List.getElem?_eq_some_iff.1 h).1
  exact ⟨ht, by omega, by omega⟩

theorem MAt.same {w w' : World} {S : Sy} {m : Mc} {Y : Lay} (h : MAt w S m Y) (hb : ∀ b, foot S m Y b → w'.heap[b]? = w.heap[b]?) : MAt w' S m Y where
  mrow := h.mrow.of_block (hb _ (.inl rfl))
  trow := h.trow.of_block (hb _ (.inr (.inl rfl)))
  prow t ht := (h.prow t ht).of_block (hb _ (.inr (.inr (.inr (.inl ⟨t, ht, rfl⟩)))))
  jmap := h.jmap.of_block (hb _ (.inr (.inr (.inl rfl))))
  jrow t ht i j hj := by
    have hl := live_of_get ht hj
    obtain ⟨h1, h2⟩ := h.jrow t ht i j hj
    exact ⟨h1.of_block (hb _ (.inr (.inr (.inr (.inr (.inl ⟨t, _, hl, .inl rfl⟩)))))), h2.of_block (hb _ (.inr (.inr (.inr (.inr (.inl ⟨t, _, hl, .inr rfl⟩))))))⟩
  kept := ownsRow_of_block h.kept (fun b hk => hb _ (.inr (.inr (.inr (.inr (.inr hk))))))

theorem MAt.foot_lt {w : World} {S : Sy} {m : Mc} {Y : Lay} (h : MAt w S m Y) {b : Nat} (hf : foot S m Y b) : b < w.heap.size := by
  rcases hf with rfl | rfl | rfl | ⟨t, ht, rfl⟩ | ⟨t, i, hl, hb⟩ | hk
  · exact h.mrow.lt
  · exact h.trow.lt
  · exact h.jmap.lt
  · exact (h.prow t ht).lt
  · obtain ⟨ht, h1, h2⟩ := hl
    obtain ⟨j, hj⟩ : ∃ j, (m.q t)[i - m.done t]? = some j := ⟨_, List.getElem?_eq_getElem (by omega)⟩
    obtain ⟨r1, r2⟩ := h.jrow t ht _ j hj
    rw [show m.done t + (i - m.done t) = i from by omega] at r1 r2
    rcases hb with rfl | rfl
    · exact r1.lt
    · exact r2.lt
  · exact (h.kept.lt b hk).2

theorem MAt.below {w w' : World} {S : Sy} {m : Mc} {Y : Lay} (h : MAt w S m Y) (hb : Below w.heap.size w w') : MAt w' S m Y := h.same (fun b hf => hb.block b (h.foot_lt hf))

theorem MAt.mc {w : World} {S : Sy} {m : Mc} {Y : Lay} (h : MAt w S m Y) : w.cell? ⟨Y.mb, 0, none⟩ = some (.int .i64 m.now) ∧ w.cell? ⟨Y.mb, 3, none⟩ = some (.slice (some ⟨Y.tb, 0, none⟩) S.n S.n) ∧ w.cell? ⟨Y.mb, 20, none⟩ = some (.map (some Y.jm)) :=
  ⟨by rw [h.mrow.cell (by omega)]; rfl, by rw [h.mrow.cell (by omega)]; rfl, by rw [h.mrow.cell (by omega)]; rfl⟩

theorem MAt.tc {w : World} {S : Sy} {m : Mc} {Y : Lay} (h : MAt w S m Y) {t : Nat} (ht : t < S.n) {c : Nat} (hc : c < 7) : w.cell? ⟨Y.tb, t * 7 + c, none⟩ = some (taskC S m Y t c) := by
  rw [h.trow.cell (by omega)]
  unfold tcell
  rw [show (t * 7 + c) / 7 = t from by omega, show (t * 7 + c) % 7 = c from by omega]

theorem live_first {S : Sy} {m : Mc} {Y : Lay} {t : Nat} (ht : t < S.n) : live S m Y t (m.done t) = if m.q t = [] then none else some (Y.jb t (m.done t)) := by
  unfold live
  by_cases e : m.q t = []
  · rw [if_pos e, if_neg (by rw [e]; simp)]
  · have : 0 < (m.q t).length := List.length_pos_iff.2 e
    rw [if_neg e, if_pos ⟨ht, Nat.le_refl _, by omega⟩]

set_option maxHeartbeats 1000000 in
theorem first_any (S : Sy) (m : Mc) (Y : Lay) (t : Nat) (w : World) (ho : Ok S m) (ht : t < S.n) (h : MAt w S m Y) :
    Calls Tryz.prog 84 #[.pointer (some ⟨Y.mb, 0, none⟩), .int .i64 t] w fun e w' => e = .returned (jptr (live S m Y t (m.done t))) ∧ Below w.heap.size w w' := by
  obtain ⟨c0, c3, c20⟩ := h.mc
  have c5 := h.tc ht (c := 5) (by omega)
  have h8 := ho.eight
  have hd : m.done t ≤ 9223372036854775807 := by have := ho.many t ht; have := ho.arrd; omega
  have hlk : (Instr.lookup 138 (.map (some Y.jm)) (.agg #[.int .i64 (t : Int), .int .i64 (m.done t : Int)]) false).run Tryz.prog w.drew = .ok (jptr (live S m Y t (m.done t))) w.drew := run_jlook (t := t) (i := m.done t) (by omega) hd (h.jmap.of_block rfl)
  change w.cell? _ = some (.int .i64 (m.done t)) at c5
  clear h ho
  go_enter Tryz.func84, Tryz.ntmps84
  go_wp2
  go_region
  go_wp2
  go_ret
  exact ⟨rfl, (Below.refl _ _).drew⟩
end Go.Proofs.YtdabcflpcklfiaaGreat

/- Who is ready, how he ranks, and who has the tick. -/
namespace Go.Proofs.YtdabcflpcklfiaaGreat
open Go.RowKit Cad

theorem ret_boolM {a b : Bool} (h : a = b) : Ending.returned (.bool a) = .returned (.bool b) := by rw [h]

set_option maxHeartbeats 1000000 in
theorem ready_any (S : Sy) (m : Mc) (Y : Lay) (t : Nat) (w : World) (ho : Ok S m) (ht : t < S.n) (h : MAt w S m Y) :
    Calls Tryz.prog 114 #[.pointer (some ⟨Y.mb, 0, none⟩), .int .i64 t] w fun e w' => e = .returned (.bool (readyB m t)) ∧ Below w.heap.size w w' := by
  have HF := first_any S m Y t w ho ht h
  rw [live_first ht] at HF
  match hq : m.q t with
  | [] =>
    rw [hq, if_pos rfl] at HF
    have HF' : Hid (Calls Tryz.prog 84 #[.pointer (some ⟨Y.mb, 0, none⟩), .int .i64 t] w fun e w' => e = .returned (.pointer none) ∧ Below w.heap.size w w') := HF
    have HR : Hid (readyB m t = false) := by unfold Hid readyB; rw [hq]
    clear HF h ho hq
    go_enter Tryz.func114, Tryz.ntmps114
    go_wp2_with fail
    refine (HF'.out).mono ?_
    rintro e w1 ⟨rfl, hb1⟩
    go_wp2_with fail
    go_region
    go_wp2
    go_ret
    exact ⟨ret_boolM HR.out.symm, hb1.drew⟩
  | j :: r =>
    rw [hq, if_neg (by simp)] at HF
    have HF' : Hid (Calls Tryz.prog 84 #[.pointer (some ⟨Y.mb, 0, none⟩), .int .i64 t] w fun e w' => e = .returned (.pointer (some ⟨Y.jb t (m.done t), 0, none⟩)) ∧ Below w.heap.size w w') := HF
    have HR : Hid (readyB m t = decide (j.rel ≤ m.now)) := by unfold Hid readyB; rw [hq]
    have hj := (h.jrow t ht 0 j (by rw [hq]; rfl)).1
    rw [Nat.add_zero] at hj
    have c2 : w.cell? ⟨Y.jb t (m.done t), 2, none⟩ = some (.int .i64 j.rel) := by rw [hj.cell (by omega)]; rfl
    have hjl := hj.lt
    have hml := h.mrow.lt
    obtain ⟨c0, c3, c20⟩ := h.mc
    clear HF h ho hq hj c3 c20
    go_enter Tryz.func114, Tryz.ntmps114
    go_wp2_with fail
    refine (HF'.out).mono ?_
    rintro e w1 ⟨rfl, hb1⟩
    have d2 := (hb1.cell (p := ⟨Y.jb t (m.done t), 2, none⟩) hjl).trans c2
    have d0 := (hb1.cell (p := ⟨Y.mb, 0, none⟩) hml).trans c0
    clear c2 c0
    go_wp2_with fail
    go_region
    go_wp2
    go_ret
    exact ⟨ret_boolM HR.out.symm, hb1.drew⟩

end Go.Proofs.YtdabcflpcklfiaaGreat

/- How a task ranks, and who has the tick. -/
namespace Go.Proofs.YtdabcflpcklfiaaGreat
open Go.RowKit Cad

theorem index118 (l : Nat → Int) (k : Nat) (hk : k < 8) (w : World) : (Instr.index 139 (.agg #[.int .i64 (l 0), .int .i64 (l 1), .int .i64 (l 2), .int .i64 (l 3), .int .i64 (l 4), .int .i64 (l 5), .int .i64 (l 6), .int .i64 (l 7)]) (.int .i64 (k : Int))).run Tryz.prog w = .ok (.int .i64 (l k)) w :=
  match k, hk with
  | 0, _ => by kernel_rfl
  | 1, _ => by kernel_rfl
  | 2, _ => by kernel_rfl
  | 3, _ => by kernel_rfl
  | 4, _ => by kernel_rfl
  | 5, _ => by kernel_rfl
  | 6, _ => by kernel_rfl
  | 7, _ => by kernel_rfl

theorem max_ifM (a b : Int) : (if a < b then b else a) = max a b := by
  by_cases h : a < b
  · rw [if_pos h, Int.max_eq_right (by omega)]
  · rw [if_neg h, Int.max_eq_left (by omega)]

theorem MAt.hc {w : World} {S : Sy} {m : Mc} {Y : Lay} (h : MAt w S m Y) {r : Nat} (hr : r < 8) : w.cell? ⟨Y.mb, 12 + r, none⟩ = some (.int .i64 (m.hold r)) := by
  rw [h.mrow.cell (by omega)]
  unfold mcell
  rw [if_neg (by omega), if_neg (by omega), if_neg (by omega), if_neg (by omega), if_neg (by omega), if_pos (by omega), show 12 + r - 12 = r from by omega]
theorem MAt.cc {w : World} {S : Sy} {m : Mc} {Y : Lay} (h : MAt w S m Y) {r : Nat} (hr : r < 8) : w.cell? ⟨Y.mb, 4 + r, none⟩ = some (.int .i64 (S.C r)) := by
  rw [h.mrow.cell (by omega)]
  unfold mcell
  rw [if_neg (by omega), if_neg (by omega), if_neg (by omega), if_neg (by omega), if_pos (by omega), show 4 + r - 4 = r from by omega]

set_option maxRecDepth 100000 in
set_option maxHeartbeats 2000000 in
theorem rank_any (S : Sy) (m : Mc) (Y : Lay) (t : Nat) (w : World) (ho : Ok S m) (ht : t < S.n) (h : MAt w S m Y) :
    Calls Tryz.prog 115 #[.pointer (some ⟨Y.mb, 0, none⟩), .int .i64 t] w fun e w' => e = .returned (.int .i64 (rank S m.hold t)) ∧ w' = w := by
  obtain ⟨c0, c3, c20⟩ := h.mc
  have c5 := h.tc ht (c := 2) (by omega)
  change w.cell? _ = some (.int .i64 (S.Z t)) at c5
  have h8 := ho.eight
  have e0 := h.hc (r := 0) (by omega)
  have e1 := h.hc (r := 1) (by omega)
  have e2 := h.hc (r := 2) (by omega)
  have e3 := h.hc (r := 3) (by omega)
  have e4 := h.hc (r := 4) (by omega)
  have e5 := h.hc (r := 5) (by omega)
  have e6 := h.hc (r := 6) (by omega)
  have e7 := h.hc (r := 7) (by omega)
  have HC : Hid (∀ r, r < 8 → w.cell? ⟨Y.mb, 4 + r, none⟩ = some (.int .i64 (S.C r))) := fun r hr => h.cc hr
  have HA : Hid (∀ r, r ≤ 8 → 0 ≤ (actTo S m.hold t r).1 ∧ (actTo S m.hold t r).1 < 8 ∧ 0 ≤ (actTo S m.hold t r).2 ∧ (actTo S m.hold t r).2 ≤ 1) := actTo_range (ho.prio t ht) ho.ceil
  clear h ho c0 c20
  go_enter Tryz.func115, Tryz.ntmps115
  go_wp2
  clear e0 e1 e2 e3 e4 e5 e6 e7 c3 c5
  go_loop [5, 6, 21] (fun a b i => ∃ r : Nat, r ≤ 8 ∧ i = .int .i64 r ∧ a = .int .i64 (actTo S m.hold t r).1 ∧ b = .int .i64 (actTo S m.hold t r).2) (fun _ _ i => 8 - (intOf i).toNat)
  case atStart => exact ⟨0, by omega, rfl, rfl, rfl⟩
  case round =>
    obtain ⟨r, hr, rfl, rfl, rfl⟩ := hrel
    by_cases hlt : r < 8
    · have hix := index118 m.hold r hlt w
      have hcc := HC.out r hlt
      have hra := HA.out r (by omega)
      by_cases hh : m.hold r = t
      · have hE : Hid (actTo S m.hold t (r + 1) = (max (actTo S m.hold t r).1 (S.C r), 1)) := by unfold Hid; rw [actTo, if_pos hh]
        go_wp2
        all_goals
          go_round
          case rel => exact ⟨r + 1, by omega, by go_num, by rw [hE.out]; simp [max_ifM], by rw [hE.out]⟩
          case measure => simp [intOf]; omega
      · have hE : Hid (actTo S m.hold t (r + 1) = actTo S m.hold t r) := by unfold Hid; rw [actTo, if_neg hh]
        have hhb : (m.hold r == (t : Int)) = false := by simpa using hh
        go_wp2
        go_round
        case rel => exact ⟨r + 1, by omega, by go_num, by rw [hE.out], by rw [hE.out]⟩
        case measure => simp [intOf]; omega
    · obtain rfl : r = 8 := by omega
      have hra := HA.out 8 (by omega)
      go_wp2
      go_ret
      exact ⟨rfl, rfl⟩
end Go.Proofs.YtdabcflpcklfiaaGreat
