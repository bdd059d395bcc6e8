import Derived.Test.YtdabcflpcklfiaaGreatA01
import Derived.Laws.AppendOwn
import Derived.Deep.RegionLaw
import Derived.Laws.IdiomCopy
import Derived.Maps.AppendAt
import Derived.Deep.Cut
/- A kernel's machine in memory; who is ready, and who has the tick. -/
namespace Go.Proofs.YtdabcflpcklfiaaGreat
open Go.RowKit Cad

/-- The block of a job that is not done. -/
def live (S : Sy) (m : Mc) (Y : Lay) (t i : Nat) : Option Nat := if t < S.n ∧ m.done t ≤ i ∧ i < m.done t + (m.q t).length then some (Y.jb t i) else none

def recC (r : Rc) : List Value := [.int .i64 r.task, .int .i64 r.arr, .int .i64 r.rel, .int .i64 r.done, .int .i64 r.left, .int .i64 r.ord]
def keptC (l : List Rc) : List Value := l.flatMap recC

structure MAt (w : World) (S : Sy) (m : Mc) (Y : Lay) : Prop where
  mrow : w.rowIs Y.mb 142 22 (mcell S m Y)
  trow : w.rowIs Y.tb 145 (S.n * 7) (tcell S m Y)
  prow : ∀ t, t < S.n → StepRow w (Y.pb t) (Y.pc t) (S.K t) (S.N t) (S.L t)
  jmap : JMap w Y.jm m.arrd.toNat (live S m Y)
  jrow : ∀ t, t < S.n → ∀ i j, (m.q t)[i]? = some j → w.rowIs (Y.jb t (m.done t + i)) 160 7 (jcell t j (-1) (restV (Y.rb t (m.done t + i)) (Y.rc t (m.done t + i)) (S.L t) j.p)) ∧ StepRow w (Y.rb t (m.done t + i)) (Y.rc t (m.done t + i)) (S.K t) j.N (S.L t)
  kept : w.ownsRow 0 158 6 Y.kv m.kept.length (keptC m.kept)

abbrev isLive (S : Sy) (m : Mc) (t i : Nat) : Prop := t < S.n ∧ m.done t ≤ i ∧ i < m.done t + (m.q t).length

/-- No two jobs share memory. -/
structure Sep (S : Sy) (m : Mc) (Y : Lay) : Prop where
  jobs : ∀ t i t' i', isLive S m t i → isLive S m t' i' → Y.jb t i = Y.jb t' i' → t = t' ∧ i = i'
  rests : ∀ t i t' i', isLive S m t i → isLive S m t' i' → Y.rb t i = Y.rb t' i' → t = t' ∧ i = i'
  progs : ∀ t i t', isLive S m t i → t' < S.n → Y.rb t i ≠ Y.pb t'

/-- The blocks that are the kernel's own. -/
def foot (S : Sy) (m : Mc) (Y : Lay) (b : Nat) : Prop :=
  b = Y.mb ∨ b = Y.tb ∨ b = Y.jm ∨ (∃ t, t < S.n ∧ b = Y.pb t) ∨ (∃ t i, isLive S m t i ∧ (b = Y.jb t i ∨ b = Y.rb t i)) ∨ Y.kv.ownBlock = some b

theorem ownsRow_of_block {w w' : World} {base e size : Nat} {v : Value} {n : Nat} {xs : List Value} (h : w.ownsRow base e size v n xs) (hb : ∀ b, v.ownBlock = some b → w'.heap[b]? = w.heap[b]?) : w'.ownsRow base e size v n xs := by
  obtain ⟨hl, h | ⟨g, cap, cur, rfl, h1, h2, h3⟩⟩ := h
  · exact ⟨hl, .inl h⟩
  · exact ⟨hl, .inr ⟨g, cap, cur, rfl, h1, (hb g rfl).trans h2, h3⟩⟩

theorem live_of_get {S : Sy} {m : Mc} {t i : Nat} {j : Jb} (ht : t < S.n) (h : (m.q t)[i]? = some j) : isLive S m t (m.done t + i) := by
  have := (List.getElem?_eq_some_iff.1 h).1
  exact ⟨ht, by omega, by omega⟩

theorem MAt.same {w w' : World} {S : Sy} {m : Mc} {Y : Lay} (h : MAt w S m Y) (hb : ∀ b, foot S m Y b → w'.heap[b]? = w.heap[b]?) : MAt w' S m Y where
  mrow := h.mrow.of_block (hb _ (.inl rfl))
  trow := h.trow.of_block (hb _ (.inr (.inl rfl)))
  prow t ht := (h.prow t ht).of_block (hb _ (.inr (.inr (.inr (.inl ⟨t, ht, rfl⟩)))))
  jmap := h.jmap.of_block (hb _ (.inr (.inr (.inl rfl))))
  jrow t ht i j hj := by
    have hl := live_of_get ht hj
    obtain ⟨h1, h2⟩ := h.jrow t ht i j hj
    exact ⟨h1.of_block (hb _ (.inr (.inr (.inr (.inr (.inl ⟨t, _, hl, .inl rfl⟩)))))), h2.of_block (hb _ (.inr (.inr (.inr (.inr (.inl ⟨t, _, hl, .inr rfl⟩))))))⟩
  kept := ownsRow_of_block h.kept (fun b hk => hb _ (.inr (.inr (.inr (.inr (.inr hk))))))

theorem MAt.foot_lt {w : World} {S : Sy} {m : Mc} {Y : Lay} (h : MAt w S m Y) {b : Nat} (hf : foot S m Y b) : b < w.heap.size := by
  rcases hf with rfl | rfl | rfl | ⟨t, ht, rfl⟩ | ⟨t, i, hl, hb⟩ | hk
  · exact h.mrow.lt
  · exact h.trow.lt
  · exact h.jmap.lt
  · exact (h.prow t ht).lt
  · obtain ⟨ht, h1, h2⟩ := hl
    obtain ⟨j, hj⟩ : ∃ j, (m.q t)[i - m.done t]? = some j := ⟨_, List.getElem?_eq_getElem (by omega)⟩
    obtain ⟨r1, r2⟩ := h.jrow t ht _ j hj
    rw [show m.done t + (i - m.done t) = i from by omega] at r1 r2
    rcases hb with rfl | rfl
    · exact r1.lt
    · exact r2.lt
  · exact (h.kept.lt b hk).2

theorem MAt.below {w w' : World} {S : Sy} {m : Mc} {Y : Lay} (h : MAt w S m Y) (hb : Below w.heap.size w w') : MAt w' S m Y := h.same (fun b hf => hb.block b (h.foot_lt hf))

theorem MAt.mc {w : World} {S : Sy} {m : Mc} {Y : Lay} (h : MAt w S m Y) : w.cell? ⟨Y.mb, 0, none⟩ = some (.int .i64 m.now) ∧ w.cell? ⟨Y.mb, 3, none⟩ = some (.slice (some ⟨Y.tb, 0, none⟩) S.n S.n) ∧ w.cell? ⟨Y.mb, 20, none⟩ = some (.map (some Y.jm)) :=
  ⟨by rw [h.mrow.cell (by omega)]; rfl, by rw [h.mrow.cell (by omega)]; rfl, by rw [h.mrow.cell (by omega)]; rfl⟩

theorem MAt.tc {w : World} {S : Sy} {m : Mc} {Y : Lay} (h : MAt w S m Y) {t : Nat} (ht : t < S.n) {c : Nat} (hc : c < 7) : w.cell? ⟨Y.tb, t * 7 + c, none⟩ = some (taskC S m Y t c) := by
  rw [h.trow.cell (by omega)]
  unfold tcell
  rw [show (t * 7 + c) / 7 = t from by omega, show (t * 7 + c) % 7 = c from by omega]

theorem live_first {S : Sy} {m : Mc} {Y : Lay} {t : Nat} (ht : t < S.n) : live S m Y t (m.done t) = if m.q t = [] then none else some (Y.jb t (m.done t)) := by
  unfold live
  by_cases e : m.q t = []
  · rw [if_pos e, if_neg (by rw [e]; simp)]
  · have : 0 < (m.q t).length := List.length_pos_iff.2 e
    rw [if_neg e, if_pos ⟨ht, Nat.le_refl _, by omega⟩]

set_option maxHeartbeats 1000000 in
theorem first_any (S : Sy) (m : Mc) (Y : Lay) (t : Nat) (w : World) (ho : Ok S m) (ht : t < S.n) (h : MAt w S m Y) :
    Calls Tryz.prog 84 #[.pointer (some ⟨Y.mb, 0, none⟩), .int .i64 t] w fun e w' => e = .returned (jptr (live S m Y t (m.done t))) ∧ Below w.heap.size w w' := by
  obtain ⟨c0, c3, c20⟩ := h.mc
  have c5 := h.tc ht (c := 5) (by omega)
  have h8 := ho.eight
  have hd : m.done t ≤ 9223372036854775807 := by have := ho.many t ht; have := ho.arrd; omega
  have hlk : (Instr.lookup 138 (.map (some Y.jm)) (.agg #[.int .i64 (t : Int), .int .i64 (m.done t : Int)]) false).run Tryz.prog w.drew = .ok (jptr (live S m Y t (m.done t))) w.drew := run_jlook (t := t) (i := m.done t) (by omega) hd (h.jmap.of_block rfl)
  change w.cell? _ = some (.int .i64 (m.done t)) at c5
  clear h ho
  go_enter Tryz.func84, Tryz.ntmps84
  go_wp2
  go_region
  go_wp2
  go_ret
  exact ⟨rfl, (Below.refl _ _).drew⟩
end Go.Proofs.YtdabcflpcklfiaaGreat

/- Who is ready, how he ranks, and who has the tick. -/
namespace Go.Proofs.YtdabcflpcklfiaaGreat
open Go.RowKit Cad

theorem ret_boolM {a b : Bool} (h : a = b) : Ending.returned (.bool a) = .returned (.bool b) := by rw [h]

set_option maxHeartbeats 1000000 in
theorem ready_any (S : Sy) (m : Mc) (Y : Lay) (t : Nat) (w : World) (ho : Ok S m) (ht : t < S.n) (h : MAt w S m Y) :
    Calls Tryz.prog 114 #[.pointer (some ⟨Y.mb, 0, none⟩), .int .i64 t] w fun e w' => e = .returned (.bool (readyB m t)) ∧ Below w.heap.size w w' := by
  have HF := first_any S m Y t w ho ht h
  rw [live_first ht] at HF
  match hq : m.q t with
  | [] =>
    rw [hq, if_pos rfl] at HF
    have HF' : Hid (Calls Tryz.prog 84 #[.pointer (some ⟨Y.mb, 0, none⟩), .int .i64 t] w fun e w' => e = .returned (.pointer none) ∧ Below w.heap.size w w') := HF
    have HR : Hid (readyB m t = false) := by unfold Hid readyB; rw [hq]
    clear HF h ho hq
    go_enter Tryz.func114, Tryz.ntmps114
    go_wp2_with fail
    refine (HF'.out).mono ?_
    rintro e w1 ⟨rfl, hb1⟩
    go_wp2_with fail
    go_region
    go_wp2
    go_ret
    exact ⟨ret_boolM HR.out.symm, hb1.drew⟩
  | j :: r =>
    rw [hq, if_neg (by simp)] at HF
    have HF' : Hid (Calls Tryz.prog 84 #[.pointer (some ⟨Y.mb, 0, none⟩), .int .i64 t] w fun e w' => e = .returned (.pointer (some ⟨Y.jb t (m.done t), 0, none⟩)) ∧ Below w.heap.size w w') := HF
    have HR : Hid (readyB m t = decide (j.rel ≤ m.now)) := by unfold Hid readyB; rw [hq]
    have hj := (h.jrow t ht 0 j (by rw [hq]; rfl)).1
    rw [Nat.add_zero] at hj
    have c2 : w.cell? ⟨Y.jb t (m.done t), 2, none⟩ = some (.int .i64 j.rel) := by rw [hj.cell (by omega)]; rfl
    have hjl := hj.lt
    have hml := h.mrow.lt
    obtain ⟨c0, c3, c20⟩ := h.mc
    clear HF h ho hq hj c3 c20
    go_enter Tryz.func114, Tryz.ntmps114
    go_wp2_with fail
    refine (HF'.out).mono ?_
    rintro e w1 ⟨rfl, hb1⟩
    have d2 := (hb1.cell (p := ⟨Y.jb t (m.done t), 2, none⟩) hjl).trans c2
    have d0 := (hb1.cell (p := ⟨Y.mb, 0, none⟩) hml).trans c0
    clear c2 c0
    go_wp2_with fail
    go_region
    go_wp2
    go_ret
    exact ⟨ret_boolM HR.out.symm, hb1.drew⟩

end Go.Proofs.YtdabcflpcklfiaaGreat

/- How a task ranks, and who has the tick. -/
namespace Go.Proofs.YtdabcflpcklfiaaGreat
open Go.RowKit Cad

theorem index118 (l : Nat → Int) (k : Nat) (hk : k < 8) (w : World) : (Instr.index 139 (.agg #[.int .i64 (l 0), .int .i64 (l 1), .int .i64 (l 2), .int .i64 (l 3), .int .i64 (l 4), .int .i64 (l 5), .int .i64 (l 6), .int .i64 (l 7)]) (.int .i64 (k : Int))).run Tryz.prog w = .ok (.int .i64 (l k)) w :=
  match k, hk with
  | 0, _ => by kernel_rfl
  | 1, _ => by kernel_rfl
  | 2, _ => by kernel_rfl
  | 3, _ => by kernel_rfl
  | 4, _ => by kernel_rfl
  | 5, _ => by kernel_rfl
  | 6, _ => by kernel_rfl
  | 7, _ => by kernel_rfl

theorem max_ifM (a b : Int) : (if a < b then b else a) = max a b := by
  by_cases h : a < b
  · rw [if_pos h, Int.max_eq_right (by omega)]
  · rw [if_neg h, Int.max_eq_left (by omega)]

theorem MAt.hc {w : World} {S : Sy} {m : Mc} {Y : Lay} (h : MAt w S m Y) {r : Nat} (hr : r < 8) : w.cell? ⟨Y.mb, 12 + r, none⟩ = some (.int .i64 (m.hold r)) := by
  rw [h.mrow.cell (by omega)]
  unfold mcell
  rw [if_neg (by omega), if_neg (by omega), if_neg (by omega), if_neg (by omega), if_neg (by omega), if_pos (by omega), show 12 + r - 12 = r from by omega]
theorem MAt.cc {w : World} {S : Sy} {m : Mc} {Y : Lay} (h : MAt w S m Y) {r : Nat} (hr : r < 8) : w.cell? ⟨Y.mb, 4 + r, none⟩ = some (.int .i64 (S.C r)) := by
  rw [h.mrow.cell (by omega)]
  unfold mcell
  rw [if_neg (by omega), if_neg (by omega), if_neg (by omega), if_neg (by omega), if_pos (by omega), show 4 + r - 4 = r from by omega]

set_option maxRecDepth 100000 in
set_option maxHeartbeats 2000000 in
theorem rank_any (S : Sy) (m : Mc) (Y : Lay) (t : Nat) (w : World) (ho : Ok S m) (ht : t < S.n) (h : MAt w S m Y) :
    Calls Tryz.prog 115 #[.pointer (some ⟨Y.mb, 0, none⟩), .int .i64 t] w fun e w' => e = .returned (.int .i64 (rank S m.hold t)) ∧ w' = w := by
  obtain ⟨c0, c3, c20⟩ := h.mc
  have c5 := h.tc ht (c := 2) (by omega)
  change w.cell? _ = some (.int .i64 (S.Z t)) at c5
  have h8 := ho.eight
  have e0 := h.hc (r := 0) (by omega)
  have e1 := h.hc (r := 1) (by omega)
  have e2 := h.hc (r := 2) (by omega)
  have e3 := h.hc (r := 3) (by omega)
  have e4 := h.hc (r := 4) (by omega)
  have e5 := h.hc (r := 5) (by omega)
  have e6 := h.hc (r := 6) (by omega)
  have e7 := h.hc (r := 7) (by omega)
  have HC : Hid (∀ r, r < 8 → w.cell? ⟨Y.mb, 4 + r, none⟩ = some (.int .i64 (S.C r))) := fun r hr => h.cc hr
  have HA : Hid (∀ r, r ≤ 8 → 0 ≤ (actTo S m.hold t r).1 ∧ (actTo S m.hold t r).1 < 8 ∧ 0 ≤ (actTo S m.hold t r).2 ∧ (actTo S m.hold t r).2 ≤ 1) := actTo_range (ho.prio t ht) ho.ceil
  clear h ho c0 c20
  go_enter Tryz.func115, Tryz.ntmps115
  go_wp2
  clear e0 e1 e2 e3 e4 e5 e6 e7 c3 c5
  go_loop [5, 6, 21] (fun a b i => ∃ r : Nat, r ≤ 8 ∧ i = .int .i64 r ∧ a = .int .i64 (actTo S m.hold t r).1 ∧ b = .int .i64 (actTo S m.hold t r).2) (fun _ _ i => 8 - (intOf i).toNat)
  case atStart => exact ⟨0, by omega, rfl, rfl, rfl⟩
  case round =>
    obtain ⟨r, hr, rfl, rfl, rfl⟩ := hrel
    by_cases hlt : r < 8
    · have hix := index118 m.hold r hlt w
      have hcc := HC.out r hlt
      have hra := HA.out r (by omega)
      by_cases hh : m.hold r = t
      · have hE : Hid (actTo S m.hold t (r + 1) = (max (actTo S m.hold t r).1 (S.C r), 1)) := by unfold Hid; rw [actTo, if_pos hh]
        go_wp2
        all_goals
          go_round
          case rel => exact ⟨r + 1, by omega, by go_num, by rw [hE.out]; simp [max_ifM], by rw [hE.out]⟩
          case measure => simp [intOf]; omega
      · have hE : Hid (actTo S m.hold t (r + 1) = actTo S m.hold t r) := by unfold Hid; rw [actTo, if_neg hh]
        have hhb : (m.hold r == (t : Int)) = false := by simpa using hh
        go_wp2
        go_round
        case rel => exact ⟨r + 1, by omega, by go_num, by rw [hE.out], by rw [hE.out]⟩
        case measure => simp [intOf]; omega
    · obtain rfl : r = 8 := by omega
      have hra := HA.out 8 (by omega)
      go_wp2
      go_ret
      exact ⟨rfl, rfl⟩
end Go.Proofs.YtdabcflpcklfiaaGreat

/- Who has the tick. -/
namespace Go.Proofs.YtdabcflpcklfiaaGreat
open Go.RowKit Cad

set_option maxRecDepth 100000 in
set_option maxHeartbeats 2000000 in
theorem chosen_any (S : Sy) (m : Mc) (Y : Lay) (w : World) (ho : Ok S m) (h : MAt w S m Y) :
    Calls Tryz.prog 83 #[.pointer (some ⟨Y.mb, 0, none⟩)] w fun e w' => e = .returned (.int .i64 (chTo S m S.n).1) ∧ Below w.heap.size w w' := by
  obtain ⟨c0, c3, c20⟩ := h.mc
  have h8 := ho.eight
  have HO : Hid (Ok S m) := ho
  have HM : Hid (MAt w S m Y) := h
  clear h ho c0 c20
  go_enter Tryz.func83, Tryz.ntmps83
  go_wp2
  clear c3
  go_loopw [3, 4, 12] (fun b g i wr => ∃ k : Nat, k ≤ S.n ∧ i = .int .i64 k ∧ b = .int .i64 (chTo S m k).1 ∧ g = .int .i64 (chTo S m k).2 ∧ Below w.heap.size w wr) (fun _ _ i _ => S.n - (intOf i).toNat)
  case atStart => exact ⟨0, by omega, rfl, rfl, rfl, Below.refl _ _⟩
  case round =>
    obtain ⟨k, hk, rfl, rfl, rfl, hbel⟩ := hrel
    have HB : Hid (Below w.heap.size w wr) := hbel
    have hsz := hbel.size
    clear hbel
    by_cases hlt : k < S.n
    · go_wp2_with fail
      refine (ready_any S m Y k wr HO.out hlt (HM.out.below HB.out)).mono ?_
      rintro e w1 ⟨rfl, hb1⟩
      have HB1 : Hid (Below w.heap.size w w1) := HB.out.trans (hb1.mono hsz)
      clear hb1
      by_cases hr : readyB m k = true
      · rw [hr]
        have hrr := rank_range HO.out hlt m.hold
        go_wp2_with fail
        refine (rank_any S m Y k w1 HO.out hlt (HM.out.below HB1.out)).mono ?_
        rintro e w2 ⟨rfl, rfl⟩
        by_cases hg : (chTo S m k).2 < rank S m.hold k
        · have HE : Hid (chTo S m (k + 1) = ((k : Int), rank S m.hold k)) := by unfold Hid; rw [chTo, if_pos ⟨hr, hg⟩]
          go_wp2
          go_roundw
          case rel => exact ⟨k + 1, by omega, by go_num, by rw [HE.out], by rw [HE.out], HB1.out⟩
          case measure => simp [intOf]; omega
        · have HE : Hid (chTo S m (k + 1) = chTo S m k) := by unfold Hid; rw [chTo, if_neg (fun h => hg h.2)]
          go_wp2
          go_roundw
          case rel => exact ⟨k + 1, by omega, by go_num, by rw [HE.out], by rw [HE.out], HB1.out⟩
          case measure => simp [intOf]; omega
      · have hr' : readyB m k = false := by simpa using hr
        rw [hr']
        have HE : Hid (chTo S m (k + 1) = chTo S m k) := by unfold Hid; rw [chTo, if_neg (fun h => hr h.1)]
        go_wp2
        go_roundw
        case rel => exact ⟨k + 1, by omega, by go_num, by rw [HE.out], by rw [HE.out], HB1.out⟩
        case measure => simp [intOf]; omega
    · obtain rfl : k = S.n := by omega
      go_wp2
      go_ret
      exact ⟨rfl, HB.out⟩
end Go.Proofs.YtdabcflpcklfiaaGreat

/- The record that was done longest ago is struck off the list. -/
namespace Go.Proofs.YtdabcflpcklfiaaGreat
open Go.RowKit Cad

theorem Tryz.info158 : (Tryz.prog.info? 158).map (fun i => (i.zero, i.size, i.bytes)) = some (some (.agg #[.int .i64 0, .int .i64 0, .int .i64 0, .int .i64 0, .int .i64 0, .int .i64 0]), 6, 48) := by kernel_rfl

theorem row_setCellsM {g t m : Nat} : ∀ (vs : List Value) (o : Nat) (w : World) (f : Nat → Value), w.rowIs g t m f → (w.setCells g o vs).rowIs g t m (fun q => if o ≤ q then (vs[q - o]?).getD (f q) else f q)
  | [], o, w, f, h => h.congr (fun q _ => by simp)
  | v :: r, o, w, f, h => (row_setCellsM r (o + 1) (w.setCell ⟨g, o, none⟩ v) _ (h.set o v)).congr (fun q _ => by
      by_cases h1 : q = o
      · subst h1
        rw [if_neg (by omega), if_pos rfl, if_pos (Nat.le_refl _)]
        simp
      · by_cases h2 : o + 1 ≤ q
        · rw [if_pos h2, if_neg h1, if_pos (by omega), show q - o = (q - (o + 1)) + 1 from by omega]
          simp
        · rw [if_neg h2, if_neg h1, if_neg (by omega)])

theorem fr_setCells {X : Nat → Prop} {g : Nat} {w0 : World} (hg : X g) : ∀ (vs : List Value) (o : Nat) (w : World), Fr X w0 w → Fr X w0 (w.setCells g o vs)
  | [], _, _, h => h
  | v :: r, o, _, h => fr_setCells hg r (o + 1) _ (h.setCell (.inl hg) v)

/-- A list of records in a block, by its cells. -/
theorem own_row {w : World} {v : Value} {n : Nat} {xs : List Value} (h : w.ownsRow 0 158 6 v n xs) (hn : 1 ≤ n) : ∃ g cap f, v = .slice (some ⟨g, 0, none⟩) n cap ∧ n ≤ cap ∧ cap ≤ maxLen ∧ w.rowIs g 158 (cap * 6) f ∧ ∀ i, i < n * 6 → xs[i]? = some (f i) := by
  obtain ⟨hl, ⟨_, h0⟩ | ⟨g, cap, cur, rfl, _, hb, h1, h2, h3, h4⟩⟩ := h
  · omega
  · refine ⟨g, cap, fun i => cur.toList.getD i (.int .i64 0), rfl, h1, h2, ⟨cur, hb, h3, fun i hi => ?_⟩, fun i hi => ?_⟩
    · simp [List.getD, h3 ▸ hi]
    · rw [← h4, List.getElem?_take, if_pos hi]
      have : i < cur.toList.length := by
        simp; rw [h3]
        exact Nat.lt_of_lt_of_le hi (Nat.mul_le_mul_right 6 h1)
      simp [List.getD, List.getElem?_eq_getElem this]

theorem row_own {w : World} {g cap n : Nat} {f : Nat → Value} {xs : List Value} (h : w.rowIs g 158 (cap * 6) f) (h1 : n ≤ cap) (h2 : cap ≤ maxLen) (hl : xs.length = n * 6) (hx : ∀ i, i < n * 6 → xs[i]? = some (f i)) : w.ownsRow 0 158 6 (.slice (some ⟨g, 0, none⟩) n cap) n xs := by
  obtain ⟨c, hc, hs, hf⟩ := h
  refine ⟨hl, .inr ⟨g, cap, c, rfl, Nat.zero_le _, hc, h1, h2, hs, ?_⟩⟩
  apply List.ext_getElem?
  intro i
  rw [List.getElem?_take]
  by_cases hi : i < n * 6
  · rw [if_pos hi, hx i hi, Array.getElem?_toList]
    exact hf i (Nat.lt_of_lt_of_le hi (Nat.mul_le_mul_right 6 h1))
  · rw [if_neg hi, List.getElem?_eq_none (by omega)]

def zero6 : List Value := [.int .i64 0, .int .i64 0, .int .i64 0, .int .i64 0, .int .i64 0, .int .i64 0]

/-- Clearing one record. -/
theorem run_clear1 {w : World} {g off c : Nat} (ty : TypeId) (hc : ∀ j, j < 6 → (w.cell? ⟨g, off + j, none⟩).isSome = true) (hf : ∀ j, j < 6 → w.frozen? ⟨g, off + j, none⟩ = false) :
    (Builtin.clear_ #[140] ty #[.slice (some ⟨g, off, none⟩) 1 c]).run Tryz.prog w = .ok (.tuple #[]) (w.setCells g off zero6) := by
  have hst := run_storeCells_cells (P := Tryz.prog) g off zero6 0 w (by simpa [zero6] using hc) (by simpa [zero6] using hf) (by intro v hv; simp [zero6] at hv; subst hv; rfl)
  simp only [Nat.add_zero] at hst
  have hz : (Builtin.zeroCells (Value.agg #[.int .i64 0, .int .i64 0, .int .i64 0, .int .i64 0, .int .i64 0, .int .i64 0]).cells 1).toList = zero6 := by kernel_rfl
  simp [Builtin.clear_, run_underlying Tryz.underlying140, hz, hst]

set_option maxRecDepth 100000 in
set_option maxHeartbeats 2000000 in
/-- slices.Delete(s, 0, 1). -/
theorem del_any (v : Value) (n : Nat) (xs : List Value) (w : World) (hn : 1 ≤ n) (hn1 : n ≤ 1000) (h1c : ∀ u ∈ xs, u.oneCell' = true) (h : w.ownsRow 0 158 6 v (n + 1) xs) :
    Calls Tryz.prog 117 #[v, .int .i64 0, .int .i64 1] w fun e w' => ∃ v', e = .returned v' ∧ v'.ownBlock = v.ownBlock ∧ w'.ownsRow 0 158 6 v' n (xs.drop 6) ∧ Fr (fun i => v.ownBlock = some i) w w' := by
  obtain ⟨i0, hi0, hz0, hz1, hz2⟩ := info_parts Tryz.info158
  have hxl : xs.length = (n + 1) * 6 := h.1
  obtain ⟨g, cap, f, rfl, hnc, hcm, hr, hx⟩ := own_row h (by omega)
  obtain ⟨news, hnews⟩ : ∃ news, news = xs.drop 6 := ⟨_, rfl⟩
  have hnl : news.length = n * 6 := by rw [hnews, List.length_drop]; omega
  have hng : ∀ j, j < n * 6 → news[j]? = some (f (6 + j)) := fun j hj => by rw [hnews, List.getElem?_drop]; exact hx (6 + j) (by omega)
  have s1 : Hid (news.length = n * 6) := hnl
  have s2 : Hid (∀ j u, news[j]? = some u → w.drew.cell? ((⟨g, 6, none⟩ : Addr).add j) = some u) := fun j u hu => by
    have hj : j < n * 6 := by have := (List.getElem?_eq_some_iff.1 hu).1; omega
    rw [hng j hj] at hu
    rw [Addr.add_lit, ← hu]
    exact hr.cell (by omega)
  have s3 : Hid (∀ u ∈ news, u.oneCell' = true) := fun u hu => h1c u (by rw [hnews] at hu; exact List.mem_of_mem_drop hu)
  have s4 : Hid (∀ j, j < news.length → (w.drew.cell? ⟨g, 0 + 0 * 6 + j, none⟩).isSome = true ∧ w.drew.frozen? ⟨g, 0 + 0 * 6 + j, none⟩ = false) := fun j hj => by
    rw [hnl] at hj
    refine ⟨?_, hr.frozen _⟩
    have := hr.cell (i := 0 + 0 * 6 + j) (by omega)
    show (w.cell? _).isSome = true
    rw [this]; rfl
  have hmx : cap ≤ 9223372036854775807 := by simpa [maxLen] using hcm
  have HR : Hid (w.rowIs g 158 (cap * 6) f) := hr
  have HNG : Hid (∀ j, j < n * 6 → news[j]? = some (f (6 + j))) := hng
  have HNL : Hid (news.length = n * 6) := hnl
  have hb1 : (1 : Int) ≤ (n : Int) + 1 := by omega
  have hc1 : ¬ cap = 1 := by omega
  have HNW : Hid (news = xs.drop 6) := hnews
  clear h hr hx hng hnl h1c hnews hxl
  go_enter Tryz.func117, Tryz.ntmps117
  go_wp2
  go_region_law (refine step_append_room rfl (.tmp 22) (.tmp 25) 140 rfl 158 i0 6 Tryz.underlying140 hi0 hz1 g 0 0 cap (by simp [Act.eval, Act.put]) ⟨g, 6, none⟩ n (cap - 1) news (by simp [Act.eval, Act.put]) s1.out s2.out s3.out (by omega) s4.out ?_)
  obtain ⟨W, hW⟩ : ∃ W, W = w.drew.setCells g 0 news := ⟨_, rfl⟩
  have HW : Hid (W.rowIs g 158 (cap * 6) (fun q => if q < n * 6 then f (6 + q) else f q)) := by
    unfold Hid
    rw [hW]
    refine (row_setCellsM news 0 w.drew f (HR.out.drew)).congr (fun q hq => ?_)
    rw [if_pos (Nat.zero_le _), Nat.sub_zero]
    by_cases hlt : q < n * 6
    · rw [if_pos hlt, HNG.out q hlt]; rfl
    · rw [if_neg hlt, List.getElem?_eq_none (by have := HNL.out; omega)]; rfl
  have HF : Hid (Fr (fun i => i = g) w W) := by
    unfold Hid
    rw [hW]
    exact fr_setCells (X := fun i => i = g) rfl news 0 _ ((Fr.refl _ _).drew)
  rw [← hW]
  clear hW s1 s2 s3 s4
  have hc2 : ¬ cap = n := by omega
  have HCL : Hid (∀ j, j < 6 → (W.cell? ⟨g, n * 6 + j, none⟩).isSome = true) := fun j hj => by rw [HW.out.cell (by omega)]; rfl
  have HFZ : Hid (∀ j, j < 6 → W.frozen? ⟨g, n * 6 + j, none⟩ = false) := fun j hj => HW.out.frozen _
  have hb2 : (n : Int) ≤ (n : Int) + 1 := by omega
  have hb3 : (n : Int) + 1 ≤ (cap : Int) := by omega
  have hclr := run_clear1 (c := cap - n) 0 HCL.out HFZ.out
  obtain ⟨W2, hW2⟩ : ∃ W2, W2 = W.setCells g (n * 6) zero6 := ⟨_, rfl⟩
  rw [← hW2] at hclr
  have HW2 : Hid (W2.ownsRow 0 158 6 (.slice (some ⟨g, 0, none⟩) n cap) n (xs.drop 6)) := by
    unfold Hid
    rw [hW2, ← HNW.out]
    refine row_own (row_setCellsM zero6 (n * 6) W _ HW.out) (by omega) hcm HNL.out (fun i hi => ?_)
    rw [HNG.out i hi, if_neg (by omega), if_pos hi]
  have HF2 : Hid (Fr (fun i => i = g) w W2) := by
    unfold Hid
    rw [hW2]
    exact fr_setCells (X := fun i => i = g) rfl zero6 _ _ HF.out
  clear hW2
  go_wp2
  go_ret
  exact ⟨_, rfl, rfl, HW2.out, HF2.out.mono (fun i hi => by simp [Value.ownBlock, hi])⟩

end Go.Proofs.YtdabcflpcklfiaaGreat

/- A job is done: it is struck off the map, and told among those that are done. -/
namespace Go.Proofs.YtdabcflpcklfiaaGreat
open Go.RowKit Cad

/-- Striking out, as a step of a region that draws its order. -/
theorem step_jdel {ops : Array Oper} {o : Oper} {a : Act} {w : World} {K : Act → World → Prop} {Q : Exit → Act → World → Prop} {E : Prop}
    (hg : o.guard = none) (m x : Operand) (hop : o.op = Op.call { callee := Callee.builtin Builtin.delete, args := #[m, x], argTypes := #[138, 164] }) (b n : Nat) (M : Nat → Nat → Option Nat) (t i : Nat) (ht : t ≤ 9223372036854775807) (hi : i ≤ 9223372036854775807)
    (hm : a.eval m = .map (some b)) (hx : a.eval x = keyV t i) (hj : JMap w b n M)
    (hK : ∀ w', JMap w' b n (mput M t i none) → Fr (fun i => i = b) w w' → K (a.put o.dst (.tuple #[])) w') :
    if Region.wanted o (yielded ops a.tmps) = true then Oper.wp Tryz.prog o a w K Q else E := by
  have hw : Region.wanted o (yielded ops a.tmps) = true := by simp [Region.wanted, hg]
  rw [if_pos hw]
  obtain ⟨D, hown, hat, honly⟩ := hj
  obtain ⟨w', hrun, h1, h2⟩ := hown.drop Tryz.keyed Tryz.underlying138 (key_of ht hi) o.type
  unfold Oper.wp
  simp [execOp, hop, resolve, invoke, builtin, hm, hx, hrun, Result.andThen]
  refine hK w' ⟨_, h1, ?_, ?_⟩ (fr_turned h2)
  · intro t' i' ht' hi'
    unfold mput
    by_cases e : t' = t ∧ i' = i
    · obtain ⟨rfl, rfl⟩ := e
      rw [if_pos ⟨rfl, rfl⟩, Maps.atKey_del_same]
      rfl
    · rw [if_neg e, Maps.atKey_del_other (fun h => e (keyL_inj ht' hi' ht hi h))]
      exact hat t' i' ht' hi'
  · intro l hl
    by_cases e : l = keyL t i
    · subst e
      rw [Maps.has_del_same] at hl
      cases hl
    · rw [Maps.has_del_other e] at hl
      obtain ⟨t', i', h1, h2, h3, h4⟩ := honly l hl
      refine ⟨t', i', h1, h2, h3, ?_⟩
      unfold mput
      rw [if_neg (fun h => e (by rw [h3, h.1, h.2]))]
      exact h4

/-- Appending to a list of one's own, as a step of a region that draws its order. -/
theorem step_append_own {ops : Array Oper} {o : Oper} {a : Act} {w : World} {K : Act → World → Prop} {Q : Exit → Act → World → Prop} {E : Prop}
    (hg : o.guard = none) (s x : Operand) (t : TypeId) (hop : o.op = Op.call { callee := Callee.builtin Builtin.append, args := #[s, x], argTypes := #[t, t] })
    (e : TypeId) (i : TypeInfo) (z : Value) (size bytes : Nat) (ht : Tryz.prog.underlying t = some (.slice e)) (hi : Tryz.prog.info? e = some i) (hz : i.zero = some z)
    (hsize : i.size = size) (hby : i.bytes = bytes) (hzs : z.cells.size = size) (hsz : 0 < size)
    (v : Value) (n : Nat) (xs : List Value) (hs : a.eval s = v) (hown : w.ownsRow 0 e size v n xs)
    (ad : Addr) (m c : Nat) (news : List Value) (hx : a.eval x = .slice (some ad) m c) (hl : news.length = m * size) (hnews : ∀ j u, news[j]? = some u → w.cell? (ad.add j) = some u) (h1 : ∀ u ∈ news, u.oneCell' = true)
    (h63 : n + m ≤ maxLen) (hbytes : (n + m) * bytes ≤ 140737488355328)
    (h : ∀ v' w', w'.ownsRow 0 e size v' (n + m) (xs ++ news) → w.grownBy w' v.ownBlock → (v'.ownBlock = v.ownBlock ∨ v'.ownBlock = some w.heap.size) → K (a.put o.dst v') w') :
    if Region.wanted o (yielded ops a.tmps) = true then Oper.wp Tryz.prog o a w K Q else E := by
  have hw : Region.wanted o (yielded ops a.tmps) = true := by simp [Region.wanted, hg]
  rw [if_pos hw]
  obtain ⟨v', w', hr, h2, h3, h4, h5⟩ := run_append_own_at (P := Tryz.prog) w 0 t o.type e i z size bytes ht hi hz hsize hby hzs hsz v n xs hown ad m c news hl hnews h1 h63 hbytes (Nat.zero_le _)
  unfold Oper.wp execOp
  simp only [hop, resolve, invoke, builtin, Sem.run_bind, Sem.run_pure, Result.andThen_ok, List.map_toArray, List.map_cons, List.map_nil, hs, hx, hr]
  exact h v' w' h2 h3 h5

theorem own_neK {w : World} {base e size : Nat} {v : Value} {n : Nat} {xs : List Value} {b t m : Nat} {f : Nat → Value} (h : w.ownsRow base e size v n xs) (hr : w.rowIs b t m f) (hne : t ≠ e) : v.ownBlock ≠ some b := by
  obtain ⟨_, ⟨rfl, _⟩ | ⟨g, cap, cur, rfl, _, hb, _⟩⟩ := h
  · simp [Value.ownBlock]
  · intro e1
    simp [Value.ownBlock] at e1
    subst e1
    obtain ⟨c, hc, _⟩ := hr
    rw [hc] at hb
    simp at hb
    exact hne hb.2

theorem own_ne_map {w : World} {base e size : Nat} {v : Value} {n : Nat} {xs : List Value} {b k : Nat} {M : Nat → Nat → Option Nat} (h : w.ownsRow base e size v n xs) (hr : JMap w b k M) : v.ownBlock ≠ some b := by
  obtain ⟨_, ⟨rfl, _⟩ | ⟨g, cap, cur, rfl, _, hb, _⟩⟩ := h
  · simp [Value.ownBlock]
  · intro e1
    simp [Value.ownBlock] at e1
    subst e1
    obtain ⟨D, ⟨es, clock, hc, _⟩, _⟩ := hr
    rw [hc] at hb
    simp at hb

theorem fr_grown {w w' : World} {row : Option Nat} (h : w.grownBy w' row) : Fr (fun i => row = some i) w w' :=
  ⟨h.os, h.tape, h.output, h.size, fun i hi hn => h.block i hi (fun e => hn e.symm)⟩

end Go.Proofs.YtdabcflpcklfiaaGreat

/- A job is done: the walk. -/
namespace Go.Proofs.YtdabcflpcklfiaaGreat
open Go.RowKit Cad

structure FinInv (w wc : World) (mb tb jm jb n t d N : Nat) (now : Int) (f g : Nat → Value) (j : Jb) (v kv kv1 : Value) (M : Nat → Nat → Option Nat) (l1 : List Rc) : Prop where
  mrow : wc.rowIs mb 142 22 (fun q => if q = 21 then kv1 else f q)
  trow : wc.rowIs tb 145 (n * 7) (fun q => if q = t * 7 + 5 then .int .i64 ((d : Int) + 1) else g q)
  jrow : wc.rowIs jb 160 7 (jcell t j now v)
  jmap : JMap wc jm N (mput M t d none)
  kept : wc.ownsRow 0 158 6 kv1 l1.length (keptC l1)
  blk : kv1.ownBlock = kv.ownBlock ∨ ∃ b, w.heap.size ≤ b ∧ kv1.ownBlock = some b
  fr : Fr (fun i => i = mb ∨ i = tb ∨ i = jm ∨ i = jb ∨ kv.ownBlock = some i) w wc

theorem FinInv.store {w W w3 : World} {mb tb jm jb n t d N : Nat} {now : Int} {f g : Nat → Value} {j : Jb} {v kv kv1 kv2 : Value} {M : Nat → Nat → Option Nat} {l1 l2 : List Rc} (h : FinInv w W mb tb jm jb n t d N now f g j v kv kv1 M l1)
    (hfr : Fr (fun i => kv1.ownBlock = some i) W w3) (hown : w3.ownsRow 0 158 6 kv2 l2.length (keptC l2)) (hb : kv2.ownBlock = kv1.ownBlock ∨ ∃ b, W.heap.size ≤ b ∧ kv2.ownBlock = some b) : FinInv w (w3.setCell ⟨mb, 21, none⟩ kv2) mb tb jm jb n t d N now f g j v kv kv2 M l2 := by
  have hkm := own_neK h.kept h.mrow (by decide)
  have hkt := own_neK h.kept h.trow (by decide)
  have hkj := own_neK h.kept h.jrow (by decide)
  have hkx := own_ne_map h.kept h.jmap
  have hmt : mb ≠ tb := row_ne h.mrow h.trow (by decide)
  have hmj : mb ≠ jb := row_ne h.mrow h.jrow (by decide)
  have hxm : jm ≠ mb := h.jmap.ne h.mrow
  have m3 := hfr.row h.mrow hkm
  have hk2 := own_neK hown m3 (by decide)
  refine ⟨?_, (hfr.row h.trow hkt).setOther (by simpa using hmt.symm) _, (hfr.row h.jrow hkj).setOther (by simpa using hmj.symm) _, h.jmap.of_block ((Deep.blk_setCell_other _ _ _ _ (by simpa using hxm)).trans (hfr.block _ h.jmap.lt hkx)),
    ownsRow_of_block hown (fun b hb => Deep.blk_setCell_other _ _ _ _ (fun e => hk2 (by rw [hb, e]))), ?_, (h.fr.trans hfr (fun i hi => ?_)).setCell (.inl (.inl rfl)) _⟩
  · refine (m3.set 21 kv2).congr (fun q _ => ?_)
    by_cases e : q = 21
    · rw [if_pos e, if_pos e]
    · rw [if_neg e, if_neg e, if_neg e]
  · rcases hb with hb | ⟨b, hb1, hb2⟩
    · rcases h.blk with h1 | ⟨b, h1, h2⟩
      · exact .inl (hb.trans h1)
      · exact .inr ⟨b, h1, hb.trans h2⟩
    · exact .inr ⟨b, Nat.le_trans h.fr.size hb1, hb2⟩
  · rcases h.blk with h1 | ⟨b, h1, h2⟩
    · exact .inl (.inr (.inr (.inr (.inr (by rw [← h1]; exact hi)))))
    · rw [h2] at hi
      have : b = i := by simpa using hi
      exact .inr (by omega)

theorem own_shapeK {w : World} {base e size : Nat} {v : Value} {n : Nat} {xs : List Value} (h : w.ownsRow base e size v n xs) : ∃ ao cap, v = .slice ao n cap := by
  obtain ⟨_, ⟨rfl, rfl⟩ | ⟨g, cap, cur, rfl, _⟩⟩ := h
  · exact ⟨none, 0, rfl⟩
  · exact ⟨_, cap, rfl⟩

theorem keptC_one (l : List Rc) : ∀ u ∈ keptC l, u.oneCell' = true := by
  intro u hu
  unfold keptC at hu
  obtain ⟨r, _, hr⟩ := List.mem_flatMap.1 hu
  simp [recC] at hr
  rcases hr with rfl | rfl | rfl | rfl | rfl | rfl <;> rfl

theorem keptC_tail {l : List Rc} (h : 1 ≤ l.length) : (keptC l).drop 6 = keptC l.tail := by
  cases l with
  | nil => simp at h
  | cons r l => simp [keptC, recC]

theorem keptC_snoc (l : List Rc) (r : Rc) : keptC l ++ recC r = keptC (l ++ [r]) := by simp [keptC]

theorem new_rec (w : World) (a0 a1 a2 a3 a4 a5 : Value) : ∀ k u, [a0, a1, a2, a3, a4, a5][k]? = some u → (w.alloc (.cells #[a0, a1, a2, a3, a4, a5] 158)).cell? ((⟨w.heap.size, 0, none⟩ : Addr).add k) = some u := by
  intro k u hu
  rw [Addr.add_lit, Nat.zero_add]
  have hr := World.rowIs_alloc w #[a0, a1, a2, a3, a4, a5] 158 (fun i => ([a0, a1, a2, a3, a4, a5][i]?).getD a0) (fun i hi => by
    have hi' : i < 6 := hi
    match i, hi' with
    | 0, _ => rfl
    | 1, _ => rfl
    | 2, _ => rfl
    | 3, _ => rfl
    | 4, _ => rfl
    | 5, _ => rfl)
  have hk : k < 6 := (List.getElem?_eq_some_iff.1 hu).1
  have := hr.cell (i := k) (by exact hk)
  rw [this, hu]
  rfl

theorem FinInv.append {w wc w2 : World} {mb tb jm jb n t d N : Nat} {now : Int} {f g : Nat → Value} {j : Jb} {v kv kv1 kv2 : Value} {M : Nat → Nat → Option Nat} {l1 : List Rc} {r : Rc} {o : Obj} (h : FinInv w wc mb tb jm jb n t d N now f g j v kv kv1 M l1)
    (hown : w2.ownsRow 0 158 6 kv2 (l1.length + 1) (keptC l1 ++ recC r)) (hg : (wc.drew.alloc o).grownBy w2 kv1.ownBlock) (hb : kv2.ownBlock = kv1.ownBlock ∨ kv2.ownBlock = some (wc.drew.alloc o).heap.size) :
    FinInv w (w2.setCell ⟨mb, 21, none⟩ kv2) mb tb jm jb n t d N now f g j v kv kv2 M (l1 ++ [r]) ∧ w2.cell? ⟨mb, 21, none⟩ = some kv1 ∧ w2.frozen? ⟨mb, 21, none⟩ = false := by
  have hfr : Fr (fun i => kv1.ownBlock = some i) wc w2 := ((Fr.refl _ wc).drew.alloc o).then (fr_grown hg)
  have hkm := own_neK h.kept h.mrow (by decide)
  have m3 := hfr.row h.mrow hkm
  refine ⟨h.store hfr (by rw [← keptC_snoc, List.length_append]; exact hown) ?_, by rw [m3.cell (by omega), if_pos rfl], m3.frozen 21⟩
  rcases hb with hb | hb
  · exact .inl hb
  · exact .inr ⟨_, by simp, hb⟩

end Go.Proofs.YtdabcflpcklfiaaGreat
