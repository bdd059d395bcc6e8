import Derived.Test.YtdabcflpcklfiaaGreatA39
import Derived.Test.YtdabcflpcklfiaaGreatA36
import Derived.Test.YtdabcflpcklfiaaGreatA37
import Derived.Test.YtdabcflpcklfiaaGreatA38
import Derived.Test.YtdabcflpcklfiaaGreatA29
import Derived.Test.YtdabcflpcklfiaaGreatA15
/- Holds of what is no resource, in both kernels. -/
namespace Go.Proofs.YtdabcflpcklfiaaGreat
open Go.RowKit Cad Go.MuLone

set_option maxHeartbeats 1000000 in
theorem rholds_out {w : World} {kb : Nat} {r : Int} (hr : r < 0 ∨ 7 < r) :
    Calls Tryz.prog 48 #[.pointer (some ⟨kb, 0, none⟩), .int .i64 r] w fun e w' => e = .returned (.tuple #[.int .i64 0, .int .i64 5]) ∧ w' = w := by
  by_cases h : r < 0
  · have b1 : decide (r < 0) = true := decide_eq_true h
    clear hr h
    go_enter Tryz.func48, Tryz.ntmps48
    go_wp2
    go_ret2
    exact ⟨rfl, rfl⟩
  · have b1 : decide (r < 0) = false := decide_eq_false h
    have b2 : decide (7 < r) = true := decide_eq_true (by omega)
    clear hr h
    go_enter Tryz.func48, Tryz.ntmps48
    go_wp2
    go_ret2
    exact ⟨rfl, rfl⟩

set_option maxHeartbeats 1000000 in
theorem mholds_out (mb : Nat) (w : World) {r : Int} (hr : r < 0 ∨ 7 < r) :
    Calls Tryz.prog 59 #[.pointer (some ⟨mb, 0, none⟩), .int .i64 r] w fun e w' => e = .returned (.tuple #[.int .i64 0, .int .i64 5]) ∧ w' = w := by
  by_cases h : r < 0
  · have b1 : decide (r < 0) = true := decide_eq_true h
    clear hr h
    go_enter Tryz.func59, Tryz.ntmps59
    go_wp2
    go_ret2
    exact ⟨rfl, rfl⟩
  · have b1 : decide (r < 0) = false := decide_eq_false h
    have b2 : decide (8 ≤ r) = true := decide_eq_true (by omega)
    clear hr h
    go_enter Tryz.func59, Tryz.ntmps59
    go_wp2
    go_ret2
    exact ⟨rfl, rfl⟩

set_option maxHeartbeats 1000000 in
theorem kholds_out (kb : Nat) (S : Sy) (m : Mc) (Y : Lay) (w : World) (h : KAt w kb S m Y) {r : Int} (hr : r < 0 ∨ 7 < r) :
    Calls Tryz.prog 34 #[.pointer (some ⟨kb, 0, none⟩), .int .i64 r] w fun e w' => e = .returned (.tuple #[.int .i64 0, .int .i64 5]) ∧ KMoved kb S m m Y Y w w' := by
  have c0 : w.cell? ⟨kb, 0, none⟩ = some (.int .i32 0) := by rw [h.krow.cell (by omega)]; rfl
  have c2 : w.cell? ⟨kb, 2, none⟩ = some (.pointer (some ⟨Y.mb, 0, none⟩)) := by rw [h.krow.cell (by omega)]; rfl
  have z0 := h.krow.frozen 0
  have hkl := h.krow.lt
  have HK : Hid (KAt w kb S m Y) := h
  have HQ : Hid (r < 0 ∨ 7 < r) := hr
  clear h hr
  go_enter_defers Tryz.func34, Tryz.ntmps34
  go_wp2_with (go_at_call 52; refine (lock_free Tryz.muLib ⟨kb, 0, none⟩ _ c0 z0).mono ?_; rintro e w' ⟨rfl, rfl⟩)
  refine (mholds_out Y.mb _ HQ.out).mono ?_
  rintro e w2 ⟨rfl, hw2⟩
  subst hw2
  obtain ⟨q0, qz, hkm⟩ := unlocked HK.out (Moved.refl (HK.out.locked _) HK.out.sep (Below.refl _ _)) HK.out.ok
  have HKM : Hid (KMoved kb S m m Y Y w ((w.setCell ⟨kb, 0, none⟩ (.int .i32 1)).setCell ⟨kb, 0, none⟩ (.int .i32 0))) := hkm
  clear hkm
  go_wp2
  refine leaves_cons (f := 53) (args := #[.pointer (some ⟨kb, 0, none⟩)]) (by simp) (by simp [go_sem]) ?_
  refine (unlock_deferred Tryz.muLib ⟨kb, 0, none⟩ .returning _ q0 qz).mono ?_
  rintro e u' w'' ⟨rfl, rfl, rfl⟩
  exact ⟨_, results_tmp2 rfl _ _ _, ⟨rfl, HKM.out⟩⟩

theorem kst_holds_out {own : Nat → Prop} {w : World} {kb : Nat} {S : Sy} {m : Mc} (hown : ∀ q, own q → q < w.heap.size) (h : KSt own w kb S m) {r : Int} (hr : r < 0 ∨ 7 < r) :
    Calls Tryz.prog 34 #[.pointer (some ⟨kb, 0, none⟩), .int .i64 r] w fun e w' => e = .returned (.tuple #[.int .i64 0, .int .i64 5]) ∧ KSt own w' kb S m ∧ Fr (fun q => ¬ own q) w w' := by
  obtain ⟨Y, hk, ho⟩ := h
  refine (kholds_out kb S m Y w hk hr).mono ?_
  rintro e w' ⟨he, hm⟩
  exact ⟨he, KSt.moved hown ho hm⟩

end Go.Proofs.YtdabcflpcklfiaaGreat

/- Kernels, each in blocks of its own. -/
namespace Go.Proofs.YtdabcflpcklfiaaGreat
open Go.RowKit Cad

/-- What a party holds when it has taken all new blocks. -/
def Nx (F : Nat → Prop) (s s' q : Nat) : Prop := F q ∨ (s ≤ q ∧ q < s')
def Lo (F : Nat → Prop) (s : Nat) : Prop := ∀ q, F q → q < s
def Dis (F G : Nat → Prop) : Prop := ∀ q, F q → ¬ G q

theorem Lo.nx {F : Nat → Prop} {s s' : Nat} (h : Lo F s) (hs : s ≤ s') : Lo (Nx F s s') s' := fun q hq => by
  rcases hq with g | g
  · have := h q g; omega
  · exact g.2
theorem Lo.mono {F : Nat → Prop} {s s' : Nat} (h : Lo F s) (hs : s ≤ s') : Lo F s' := fun q hq => Nat.lt_of_lt_of_le (h q hq) hs
theorem Dis.symm {F G : Nat → Prop} (h : Dis F G) : Dis G F := fun q hg hf => h q hf hg
theorem Dis.nx {F G : Nat → Prop} {s s' : Nat} (h : Dis F G) (hG : Lo G s) : Dis (Nx F s s') G := fun q hq hg => by
  rcases hq with g | g
  · exact h q g hg
  · have := hG q hg; omega
theorem Dis.mono {F F' G : Nat → Prop} (h : Dis F G) (hF : ∀ q, F' q → F q) : Dis F' G := fun q hq => h q (hF q hq)

/-- The program's kernel, in blocks of F alone. -/
def KG (F : Nat → Prop) (w : World) (kb : Nat) (S : Sy) (m : Mc) : Prop := ∃ Y, KAt w kb S m Y ∧ ∀ q, footK kb S m Y q → F q

theorem KG.ok {F : Nat → Prop} {w : World} {kb : Nat} {S : Sy} {m : Mc} (h : KG F w kb S m) : Ok S m := by
  obtain ⟨Y, hk, _⟩ := h
  exact hk.ok

theorem KG.st {F : Nat → Prop} {w : World} {kb : Nat} {S : Sy} {m : Mc} (h : KG F w kb S m) : KSt (fun q => q < w.heap.size ∧ ¬ F q) w kb S m := by
  obtain ⟨Y, hk, ho⟩ := h
  exact ⟨Y, hk, fun q hq hn => hn.2 (ho q hq)⟩

theorem KG.of {F : Nat → Prop} {s : Nat} {w : World} {kb : Nat} {S : Sy} {m : Mc} (h : KSt (fun q => q < s ∧ ¬ F q) w kb S m) : KG (Nx F s w.heap.size) w kb S m := by
  obtain ⟨Y, hk, ho⟩ := h
  refine ⟨Y, hk, fun q hq => ?_⟩
  by_cases c : F q
  · exact .inl c
  · by_cases c2 : q < s
    · exact absurd ⟨c2, c⟩ (ho q hq)
    · exact .inr ⟨by omega, hk.foot_lt hq⟩

theorem Fr.not {F : Nat → Prop} {w w' : World} (h : Fr (fun q => ¬ (q < w.heap.size ∧ ¬ F q)) w w') : Fr F w w' := ⟨h.os, h.tape, h.output, h.size, fun b hb hn => h.block b hb (fun g => g ⟨hb, hn⟩)⟩

theorem KG.other {F G : Nat → Prop} {w w' : World} {kb : Nat} {S : Sy} {m : Mc} (h : KG F w kb S m) (hf : Fr G w w') (hd : Dis F G) : KG F w' kb S m := by
  obtain ⟨Y, hk, ho⟩ := h
  exact ⟨Y, hk.same (fun b hb => hf.block b (hk.foot_lt hb) (hd b (ho b hb))), ho⟩

theorem kg_tick {F : Nat → Prop} {w : World} {kb : Nat} {S : Sy} {m : Mc} (h : KG F w kb S m) (hnow : m.now < 1000000000000000000) :
    Calls Tryz.prog 28 #[.pointer (some ⟨kb, 0, none⟩)] w fun e w' => e = .returned (.tuple #[.int .i64 (tick S m).2.1, .bool (tick S m).2.2]) ∧ KG (Nx F w.heap.size w'.heap.size) w' kb S (tick S m).1 ∧ Fr F w w' := by
  refine (kst_tick (fun q hq => hq.1) h.st hnow).mono ?_
  rintro e w' ⟨he, hk, hf⟩
  exact ⟨he, KG.of hk, hf.not⟩

theorem kg_arrive {F : Nat → Prop} {w : World} {kb : Nat} {S : Sy} {m : Mc} (h : KG F w kb S m) (x jit : Int) (db dof d dc : Nat) (D : Nat → Int) (ao : Option Addr) (har : m.arrd < 1000000000000000000) (hd : d ≤ 9223372036854775806)
    (hD : 1 ≤ d → ao = some ⟨db, dof, none⟩ ∧ db < w.heap.size ∧ IntsIn w db dof d D) :
    Calls Tryz.prog 45 #[.pointer (some ⟨kb, 0, none⟩), .int .i64 x, .int .i64 jit, .slice ao d dc] w fun e w' => e = .returned (.int .i64 (arrive S m x jit D d).2) ∧ KG (Nx F w.heap.size w'.heap.size) w' kb S (arrive S m x jit D d).1 ∧ Fr F w w' := by
  refine (kst_arrive x jit db dof d dc D ao (fun q hq => hq.1) h.st har hd hD).mono ?_
  rintro e w' ⟨he, hk, hf⟩
  exact ⟨he, KG.of hk, hf.not⟩

theorem kg_holds {F : Nat → Prop} {w : World} {kb : Nat} {S : Sy} {m : Mc} (h : KG F w kb S m) {r : Nat} (hr : r < 8) :
    Calls Tryz.prog 34 #[.pointer (some ⟨kb, 0, none⟩), .int .i64 r] w fun e w' => e = .returned (.tuple #[.int .i64 (m.hold r), .int .i64 0]) ∧ KG (Nx F w.heap.size w'.heap.size) w' kb S m ∧ Fr F w w' := by
  refine (kst_holds (fun q hq => hq.1) h.st hr).mono ?_
  rintro e w' ⟨he, hk, hf⟩
  exact ⟨he, KG.of hk, hf.not⟩

theorem kg_holds_out {F : Nat → Prop} {w : World} {kb : Nat} {S : Sy} {m : Mc} (h : KG F w kb S m) {r : Int} (hr : r < 0 ∨ 7 < r) :
    Calls Tryz.prog 34 #[.pointer (some ⟨kb, 0, none⟩), .int .i64 r] w fun e w' => e = .returned (.tuple #[.int .i64 0, .int .i64 5]) ∧ KG (Nx F w.heap.size w'.heap.size) w' kb S m ∧ Fr F w w' := by
  refine (kst_holds_out (fun q hq => hq.1) h.st hr).mono ?_
  rintro e w' ⟨he, hk, hf⟩
  exact ⟨he, KG.of hk, hf.not⟩

theorem kg_look {F : Nat → Prop} {w : World} {kb : Nat} {S : Sy} {m : Mc} (h : KG F w kb S m) :
    Calls Tryz.prog 32 #[.pointer (some ⟨kb, 0, none⟩)] w fun e w' => e = .returned (.agg #[.int .i64 m.now, .int .i64 m.idle]) ∧ KG (Nx F w.heap.size w'.heap.size) w' kb S m ∧ Fr F w w' := by
  refine (kst_look (fun q hq => hq.1) h.st).mono ?_
  rintro e w' ⟨he, hk, hf⟩
  exact ⟨he, KG.of hk, hf.not⟩

theorem kg_jobs (hS : SortC) {F : Nat → Prop} {w : World} {kb : Nat} {S : Sy} {m : Mc} (h : KG F w kb S m) :
    Calls Tryz.prog 33 #[.pointer (some ⟨kb, 0, none⟩)] w fun e w' => ∃ g l, e = .returned (.slice (some ⟨g, 0, none⟩) l.length l.length) ∧ w.heap.size ≤ g ∧ w'.rowIs g 93 (l.length * 5) (jobF l) ∧ l.Perm (allRecs S m) ∧ l.Pairwise (fun a b => a.ord ≤ b.ord) ∧
      KG (fun q => Nx F w.heap.size w'.heap.size q ∧ q ≠ g) w' kb S m ∧ Fr F w w' := by
  refine (kst_jobs hS (fun q hq => hq.1) h.st).mono ?_
  rintro e w' ⟨g, l, he, hg, hr, hp, hs, hk, hf⟩
  refine ⟨g, l, he, hg, hr, hp, hs, ?_, hf.not⟩
  obtain ⟨Y, hy, ho⟩ := hk
  refine ⟨Y, hy, fun q hq => ⟨?_, fun e => ho q hq (.inr e)⟩⟩
  by_cases c : F q
  · exact .inl c
  · by_cases c2 : q < w.heap.size
    · exact absurd (.inl ⟨c2, c⟩) (ho q hq)
    · exact .inr ⟨by omega, hy.foot_lt hq⟩

/-! ### the document's kernel -/

/-- The document's kernel, in blocks of F alone. -/
structure RGx (F : Nat → Prop) (w : World) (yb : Nat) (S : Sy) (m : Mc) (B tb tc pb pc n : Nat) (T : TD) (Z : Nat → Int) (k : RK) (jv : Value) (dv : Nat → Option Addr × Nat) : Prop where
  sy : S = sysOf T Z n
  good : Good T n
  prio : PrioB Z n
  base : B ≤ w.heap.size
  mem : RKAt w B yb tb tc pb pc n T Z k jv dv
  kinds : RKT w tb pb n T k dv
  rr : RR S m k
  fy : F yb
  ft : F tb
  fp : F pb
  fs : ∀ t, t < n → ∀ a, T.A t = some a → F a.block
  fj : ∀ b, jv.ownBlock = some b → F b
  fd : ∀ (i : Nat) (x : RJ), k.jobs[i]? = some x → ∀ a, (dv i).1 = some a → F a.block

def RG (F : Nat → Prop) (w : World) (yb : Nat) (S : Sy) (m : Mc) : Prop := ∃ B tb tc pb pc n T Z k jv dv, RGx F w yb S m B tb tc pb pc n T Z k jv dv

theorem RKAt.same {w w' : World} {B kb tb tc pb pc n : Nat} {T : TD} {Z : Nat → Int} {k : RK} {jv : Value} {dv : Nat → Option Addr × Nat} (h : RKAt w B kb tb tc pb pc n T Z k jv dv) (ht : RKT w tb pb n T k dv) (hs : w.heap.size ≤ w'.heap.size) (hk : w'.heap[kb]? = w.heap[kb]?) (b1 : w'.heap[tb]? = w.heap[tb]?) (b2 : w'.heap[pb]? = w.heap[pb]?)
    (b3 : ∀ t, t < n → ∀ a, T.A t = some a → w'.heap[a.block]? = w.heap[a.block]?) (bj : ∀ b, jv.ownBlock = some b → w'.heap[b]? = w.heap[b]?) (b4 : ∀ (i : Nat) (x : RJ), k.jobs[i]? = some x → ∀ a, (dv i).1 = some a → w'.heap[a.block]? = w.heap[a.block]?) :
    RKAt w' B kb tb tc pb pc n T Z k jv dv ∧ RKT w' tb pb n T k dv := by
  obtain ⟨_, _, h1⟩ := ht.tt
  obtain ⟨_, _, h2⟩ := ht.pt
  refine ⟨⟨h.row.of_block hk, Nat.lt_of_lt_of_le h.tlt hs, Nat.lt_of_lt_of_le h.plt hs, fun t hlt => ?_, fun a ha => (cell_same b2).trans (h.prio a ha), own_same h.jobs bj, fun i x hx h1' => ?_⟩, ⟨_, _, h1.of_block b1⟩, ⟨_, _, h2.of_block b2⟩, fun t hlt a ha => ?_, fun i x hx a ha => ?_⟩
  · obtain ⟨q0, q1, q2, q3, q4⟩ := h.tasks t hlt
    refine ⟨(cell_same b1).trans q0, (cell_same b1).trans q1, (cell_same b1).trans q2, (cell_same b1).trans q3, ⟨q4.1, fun g => ?_⟩⟩
    obtain ⟨sb, so, e, hl, hst⟩ := q4.2 g
    have c3 := b3 t hlt _ e
    exact ⟨sb, so, e, Nat.lt_of_lt_of_le hl hs, fun q hq => ⟨(cell_same c3).trans (hst q hq).1, (cell_same c3).trans (hst q hq).2⟩⟩
  · obtain ⟨rb, rf, e, hl, hi⟩ := h.dems i x hx h1'
    exact ⟨rb, rf, e, Nat.lt_of_lt_of_le hl hs, fun q hq => (cell_same (b4 i x hx _ e)).trans (hi q hq)⟩
  · obtain ⟨_, _, h3⟩ := ht.st t hlt a ha
    exact ⟨_, _, h3.of_block (b3 t hlt a ha)⟩
  · obtain ⟨_, _, h3⟩ := ht.dt i x hx a ha
    exact ⟨_, _, h3.of_block (b4 i x hx a ha)⟩

theorem RG.other {F G : Nat → Prop} {w w' : World} {yb : Nat} {S : Sy} {m : Mc} (h : RG F w yb S m) (hf : Fr G w w') (hd : Dis F G) : RG F w' yb S m := by
  obtain ⟨B, tb, tc, pb, pc, n, T, Z, k, jv, dv, h⟩ := h
  have hst : ∀ t, t < n → ∀ a, T.A t = some a → a.block < w.heap.size := fun t ht a ha => by
    obtain ⟨_, _, hr⟩ := h.kinds.st t ht a ha
    exact hr.lt
  have hdt : ∀ (i : Nat) (x : RJ), k.jobs[i]? = some x → ∀ a, (dv i).1 = some a → a.block < w.heap.size := fun i x hx a ha => by
    obtain ⟨_, _, hr⟩ := h.kinds.dt i x hx a ha
    exact hr.lt
  obtain ⟨h1, h2⟩ := h.mem.same h.kinds hf.size (hf.block _ h.mem.row.lt (hd _ h.fy)) (hf.block _ h.mem.tlt (hd _ h.ft)) (hf.block _ h.mem.plt (hd _ h.fp))
    (fun t ht a ha => hf.block _ (hst t ht a ha) (hd _ (h.fs t ht a ha))) (fun b hb => hf.block _ (h.mem.jobs.lt b hb).2 (hd _ (h.fj b hb))) (fun i x hx a ha => hf.block _ (hdt i x hx a ha) (hd _ (h.fd i x hx a ha)))
  exact ⟨B, tb, tc, pb, pc, n, T, Z, k, jv, dv, { h with base := Nat.le_trans h.base hf.size, mem := h1, kinds := h2 }⟩

theorem RG.below {F : Nat → Prop} {w w' : World} {yb : Nat} {S : Sy} {m : Mc} (h : RG F w yb S m) (hb : Below w.heap.size w w') : RG F w' yb S m :=
  h.other (G := fun _ => False) (Fr.of_below _ hb) (fun _ _ g => g)

theorem KG.below {F : Nat → Prop} {w w' : World} {kb : Nat} {S : Sy} {m : Mc} (h : KG F w kb S m) (hb : Below w.heap.size w w') : KG F w' kb S m :=
  h.other (G := fun _ => False) (Fr.of_below _ hb) (fun _ _ g => g)

theorem tick_arrd (S : Sy) (m : Mc) : (tick S m).1.arrd = m.arrd := by
  rcases tick_cases S m with ⟨_, e⟩ | ⟨t, j, r, _, _, _, _, e⟩
  · rw [e]
  · rw [e]
    unfold tickAt
    simp only []
    split <;> rfl

theorem rg_tick {F : Nat → Prop} {w : World} {yb : Nat} {S : Sy} {m : Mc} (h : RG F w yb S m) (ho : Ok S m) (hl : LkInv S m) (hnow : m.now < 1000000000000000000) (har : m.arrd ≤ 1000000000000) :
    Calls Tryz.prog 75 #[.pointer (some ⟨yb, 0, none⟩)] w fun e w' => e = .returned (.tuple #[.int .i64 (tick S m).2.1, .bool (tick S m).2.2]) ∧ RG F w' yb S (tick S m).1 ∧ Fr F w w' := by
  obtain ⟨B, tb, tc, pb, pc, n, T, Z, k, jv, dv, h⟩ := h
  obtain ⟨rfl, hG, hP, hB, hat, hkd, hrr, fy, ft, fp, fs, fj, fd⟩ := h
  have hlen : k.jobs.length ≤ 1000000000000000000 := by have := hrr.len; omega
  refine (rtick_any hat hkd hrr ho hl hG hP hnow hlen).mono ?_
  rintro e w' ⟨he, k', h1, h2, h3, hf⟩
  refine ⟨he, ⟨B, tb, tc, pb, pc, n, T, Z, k', jv, dv, rfl, hG, hP, Nat.le_trans hB hf.size, h1, h2, h3, fy, ft, fp, fs, fj, fun i x hx a ha => ?_⟩, hf.mono (fun q hq => ?_)⟩
  · have e1 := h3.len
    rw [tick_arrd] at e1
    have e2 := hrr.len
    have hi := (List.getElem?_eq_some_iff.1 hx).1
    exact fd i _ (List.getElem?_eq_getElem (by omega)) a ha
  · rcases hq with rfl | g
    · exact fy
    · exact fj q g

theorem rg_holds {F : Nat → Prop} {w : World} {yb : Nat} {S : Sy} {m : Mc} (h : RG F w yb S m) (ho : Ok S m) (hl : LkInv S m) (har : m.arrd ≤ 1000000000000) {r : Nat} (hr : r < 8) :
    Calls Tryz.prog 48 #[.pointer (some ⟨yb, 0, none⟩), .int .i64 r] w fun e w' => e = .returned (.tuple #[.int .i64 (m.hold r), .int .i64 0]) ∧ Below w.heap.size w w' := by
  obtain ⟨B, tb, tc, pb, pc, n, T, Z, k, jv, dv, h⟩ := h
  obtain ⟨rfl, hG, hP, hB, hat, hkd, hrr, fy, ft, fp, fs, fj, fd⟩ := h
  have hlen : k.jobs.length ≤ 1000000000000000000 := by have := hrr.len; omega
  exact rholds_any hat hrr ho hl hG hP hlen hr

/-- What both tell: a list of five numbers each. -/
def tellC (p : Int × Int × Int × Int × Int) : List Value := [.int .i64 p.1, .int .i64 p.2.1, .int .i64 p.2.2.1, .int .i64 p.2.2.2.1, .int .i64 p.2.2.2.2]

theorem rg_told {F : Nat → Prop} {w : World} {yb : Nat} {S : Sy} {m : Mc} (h : RG F w yb S m) (ho : Ok S m) (hnow : m.now < 1000000000000000000) (har : m.arrd ≤ 1000000000000) {l : List Rc} (hp : l.Perm (allRecs S m)) (hs : l.Pairwise (fun a b => a.ord ≤ b.ord)) :
    Calls Tryz.prog 78 #[.pointer (some ⟨yb, 0, none⟩)] w fun e w' => ∃ v, e = .returned v ∧ w'.ownsRow w.heap.size 93 5 v l.length ((l.map viewC).flatMap tellC) ∧ Below w.heap.size w w' := by
  obtain ⟨B, tb, tc, pb, pc, n, T, Z, k, jv, dv, h⟩ := h
  obtain ⟨rfl, hG, hP, hB, hat, hkd, hrr, fy, ft, fp, fs, fj, fd⟩ := h
  have hlen : k.jobs.length ≤ 1000000000000 := by have := hrr.len; omega
  have hend : 0 ≤ k.ended ∧ k.ended < 1000000000000000000 := by
    have h1 := hrr.en
    have h2 := hrr.now
    have h3 := hrr.kl.1
    omega
  have e := hrr.told ho hp hs
  have e2 : (k.jobs.filter (toldB k)).length = l.length := by
    have := congrArg List.length e
    rw [List.length_map, List.length_map] at this
    exact this.symm
  have e3 : (k.jobs.filter (toldB k)).flatMap toldC = (l.map viewC).flatMap tellC := by
    rw [e, List.flatMap_map]
    rfl
  rw [← e2, ← e3]
  refine rtold_any hat hlen hend (fun i x hx => ?_)
  obtain ⟨d1, d2, d3, d4⟩ := hrr.dm i x hx
  have hsm := sumL_range d1 x.dem.length (Nat.le_refl _)
  rw [List.take_length] at hsm
  exact ⟨d1, d2, d3, by omega⟩

theorem RG.cells {F : Nat → Prop} {w : World} {yb : Nat} {S : Sy} {m : Mc} (h : RG F w yb S m) : w.cell? ⟨yb, 3, none⟩ = some (.int .i64 m.now) ∧ w.cell? ⟨yb, 4, none⟩ = some (.int .i64 m.idle) ∧ yb < w.heap.size := by
  obtain ⟨B, tb, tc, pb, pc, n, T, Z, k, jv, dv, h⟩ := h
  obtain ⟨_, _, _, c3, c4, _⟩ := h.mem.rc
  exact ⟨by rw [c3, h.rr.now], by rw [c4, h.rr.idle], h.mem.row.lt⟩

end Go.Proofs.YtdabcflpcklfiaaGreat

/- The law's own lists in memory. -/
namespace Go.Proofs.YtdabcflpcklfiaaGreat
open Go.RowKit Cad

/-- append onto a row of the call's own: where the new row lies, and what is left of the old one. -/
structure Grew (w w' : World) (v v' : Value) : Prop where
  by' : w.grownBy w' v.ownBlock
  at' : v'.ownBlock = v.ownBlock ∨ (v'.ownBlock = some w.heap.size ∧ w.grownBy w' none)

theorem run_append_own3 {P : Program} (w : World) (base : Nat) (t ty e : TypeId) (i : TypeInfo) (z : Value) (size bytes : Nat) (ht : P.underlying t = some (.slice e)) (hi : P.info? e = some i) (hz : i.zero = some z)
    (hsize : i.size = size) (hby : i.bytes = bytes) (hzs : z.cells.size = size) (hsz : 0 < size)
    (v : Value) (n : Nat) (xs : List Value) (hown : w.ownsRow base e size v n xs)
    (ad : Addr) (m c : Nat) (news : List Value) (hl : news.length = m * size) (hnews : ∀ j u, news[j]? = some u → w.cell? (ad.add j) = some u) (h1 : ∀ u ∈ news, u.oneCell' = true)
    (h63 : n + m ≤ maxLen) (hbytes : (n + m) * bytes ≤ 140737488355328) (hbase : base ≤ w.heap.size) :
    ∃ v' w', (Builtin.append_ #[t, t] ty #[v, .slice (some ad) m c]).run P w = .ok v' w' ∧ w'.ownsRow base e size v' (n + m) (xs ++ news) ∧ Grew w w' v v' := by
  obtain ⟨v', w', hr, h2, h3, h4⟩ := run_append_own (P := P) w base t ty e i z size bytes ht hi hz hsize hby hzs hsz v n xs hown ad m c news hl hnews h1 h63 hbytes hbase
  have hfresh : v'.ownBlock = v.ownBlock ∨ (v'.ownBlock = some w.heap.size ∧ w.grownBy w' none) := by
    subst hsize
    subst hby
    have hsmall : n + m ≤ 9223372036854775807 := by simp only [maxLen] at h63; omega
    rcases hown.2 with ⟨rfl, rfl⟩ | ⟨g, cap, cur, rfl, hbg, hg, hnc, hcm, hcs, htake⟩
    · by_cases hm : m = 0
      · exact .inl (by rw [h4.2 ⟨rfl, hm⟩])
      · have hr2 := run_append_nil (P := P) w t ty e i z ht hi hz ad m c news hl hnews (by omega) (by omega) (by have hb := hbytes; simp only [Nat.zero_add] at hb; omega)
        rw [hr2] at hr
        cases hr
        exact .inr ⟨rfl, ⟨rfl, rfl, rfl, by simp, fun k hk _ => Below.heap_alloc w.drew _ k hk⟩⟩
    · by_cases hroom : n + m ≤ cap
      · have hfit : n * i.size + news.length ≤ cur.size := by rw [hl, hcs, ← Nat.add_mul]; exact Nat.mul_le_mul_right _ hroom
        have hr2 := run_append_room (P := P) w t ty e i ht hi g n cap cur hg ad m c news hl hnews h1 hroom hfit
        rw [hr2] at hr
        cases hr
        exact .inl rfl
      · have holds : ∀ j u, xs[j]? = some u → w.cell? ((⟨g, 0, none⟩ : Addr).add j) = some u := hown.cells (g := g) rfl
        have hr2 := run_append_grow (P := P) w t ty e i z ht hi hz ⟨g, 0, none⟩ n cap xs hown.1 holds ad m c news hl hnews (by omega) (by omega) (growslice_fits (by omega) hbytes)
        rw [hr2] at hr
        cases hr
        exact .inr ⟨rfl, ⟨rfl, rfl, rfl, by simp, fun k hk _ => Below.heap_alloc w.drew _ k hk⟩⟩
  exact ⟨v', w', hr, h2, h3, hfresh⟩

theorem wpList_append_own3 {P : Program} (w : World) {ops : Array Oper} {rest : List Oper} {o : Oper} {a : Act} {Q : Exit → Act → World → Prop} (hgd : o.guard = none) (s x : Operand) (t : TypeId)
    (ho : o.op = .call { callee := .builtin .append, args := #[s, x], argTypes := #[t, t] })
    (base : Nat) (e : TypeId) (i : TypeInfo) (z : Value) (size bytes : Nat) (ht : P.underlying t = some (.slice e)) (hi : P.info? e = some i) (hz : i.zero = some z)
    (hsize : i.size = size) (hby : i.bytes = bytes) (hzs : z.cells.size = size) (hsz : 0 < size)
    (v : Value) (n : Nat) (xs : List Value) (hs : a.eval s = v) (hown : w.ownsRow base e size v n xs)
    (ad : Addr) (m c : Nat) (news : List Value) (hx : a.eval x = .slice (some ad) m c) (hl : news.length = m * size) (hnews : ∀ j u, news[j]? = some u → w.cell? (ad.add j) = some u) (h1 : ∀ u ∈ news, u.oneCell' = true)
    (h63 : n + m ≤ maxLen) (hbytes : (n + m) * bytes ≤ 140737488355328) (hbase : base ≤ w.heap.size)
    (h : ∀ v' w', w'.ownsRow base e size v' (n + m) (xs ++ news) → Grew w w' v v' → wpList P ops Q rest (a.put o.dst v') w') : wpList P ops Q (o :: rest) a w := by
  refine wpList_plain hgd fun K hK => ?_
  obtain ⟨v', w', hr, h2, h3⟩ := run_append_own3 (P := P) w base t o.type e i z size bytes ht hi hz hsize hby hzs hsz v n xs hown ad m c news hl hnews h1 h63 hbytes hbase
  unfold Oper.wp execOp
  simp only [ho, resolve, invoke, builtin, Sem.run_bind, Sem.run_pure, Result.andThen_ok, List.map_toArray, List.map_cons, List.map_nil, hs, hx, hr]
  exact hK _ _ (h v' w' h2 h3)

theorem own_some {w : World} {base e size : Nat} {v : Value} {n : Nat} {xs : List Value} (h : w.ownsRow base e size v n xs) (h1 : 1 ≤ n) : ∃ g cap, v = .slice (some ⟨g, 0, none⟩) n cap ∧ base ≤ g ∧ g < w.heap.size := by
  rcases h.2 with ⟨_, h0⟩ | ⟨g, cap, cur, hv, hb, hg, _⟩
  · omega
  · exact ⟨g, cap, hv, hb, (Array.getElem?_eq_some_iff.1 hg).1⟩

/-- The same inside a region. -/
theorem step_append_own3R {ops : Array Oper} {o : Oper} {a : Act} {w : World} {K : Act → World → Prop} {Q : Exit → Act → World → Prop} {Ex : Prop}
    (hgd : o.guard = none) (s x : Operand) (t : TypeId) (ho : o.op = Op.call { callee := Callee.builtin Builtin.append, args := #[s, x], argTypes := #[t, t] })
    (base : Nat) (e : TypeId) (i : TypeInfo) (z : Value) (size bytes : Nat) (ht : Tryz.prog.underlying t = some (.slice e)) (hi : Tryz.prog.info? e = some i) (hz : i.zero = some z) (hsize : i.size = size) (hby : i.bytes = bytes) (hzs : z.cells.size = size) (hsz : 0 < size)
    (v : Value) (n : Nat) (xs : List Value) (hs : a.eval s = v) (hown : w.ownsRow base e size v n xs)
    (ad : Addr) (m c : Nat) (news : List Value) (hx : a.eval x = .slice (some ad) m c) (hl : news.length = m * size) (hnews : ∀ j u, news[j]? = some u → w.cell? (ad.add j) = some u) (h1 : ∀ u ∈ news, u.oneCell' = true)
    (h63 : n + m ≤ maxLen) (hbytes : (n + m) * bytes ≤ 140737488355328) (hbase : base ≤ w.heap.size)
    (h : ∀ v' w', w'.ownsRow base e size v' (n + m) (xs ++ news) → Grew w w' v v' → K (a.put o.dst v') w') :
    if Region.wanted o (yielded ops a.tmps) = true then Oper.wp Tryz.prog o a w K Q else Ex := by
  have hw : Region.wanted o (yielded ops a.tmps) = true := by simp [Region.wanted, hgd]
  rw [if_pos hw]
  obtain ⟨v', w', hr, h2, h3⟩ := run_append_own3 (P := Tryz.prog) w base t o.type e i z size bytes ht hi hz hsize hby hzs hsz v n xs hown ad m c news hl hnews h1 h63 hbytes hbase
  unfold Oper.wp execOp
  simp only [ho, resolve, invoke, builtin, Sem.run_bind, Sem.run_pure, Result.andThen_ok, List.map_toArray, List.map_cons, List.map_nil, hs, hx, hr]
  exact h v' w' h2 h3

theorem Grew.lt {w w' : World} {v v' : Value} (h : Grew w w' v v') {b : Nat} (hb : v'.ownBlock = some b) : v.ownBlock = some b ∨ w.heap.size ≤ b := by
  rcases h.at' with g | ⟨g, _⟩
  · exact .inl (g ▸ hb)
  · rw [g] at hb
    cases hb
    exact .inr (Nat.le_refl _)

/-- What lay in the row's used part, and elsewhere, is left. -/
theorem Grew.cell {w w' : World} {v v' : Value} {base e size n m b q : Nat} {xs ys : List Value} {u : Value} (h : Grew w w' v v') (ho : w.ownsRow base e size v n xs) (ho' : w'.ownsRow base e size v' (n + m) (xs ++ ys)) (hc : w.cell? ⟨b, q, none⟩ = some u) (hq : v.ownBlock = some b → q < n * size) : w'.cell? ⟨b, q, none⟩ = some u := by
  have hbl : b < w.heap.size := World.block_lt_of_cell? w ⟨b, q, none⟩ hc
  by_cases c : v.ownBlock = some b
  · rcases h.at' with g | ⟨_, g⟩
    · have hx : xs[q]? = some u := by
        have hq' := hq c
        have hlt : q < xs.length := by rw [ho.1]; exact hq'
        have := ho.cells c q xs[q] (List.getElem?_eq_getElem hlt)
        rw [Addr.add_lit, Nat.zero_add, hc] at this
        rw [List.getElem?_eq_getElem hlt]
        exact this.symm
      have := ho'.cells (g := b) (g.trans c) q u (by rw [List.getElem?_append_left (List.getElem?_eq_some_iff.1 hx).1]; exact hx)
      rw [Addr.add_lit, Nat.zero_add] at this
      exact this
    · exact (cell_same (g.block b hbl (by simp))).trans hc
  · exact (cell_same (h.by'.block b hbl (fun e => c e.symm))).trans hc

/-! ### the law's record and its lists -/

/-- The kinds of the lists' members. -/
def ety (i : Nat) : Nat := if i = 0 then 60 else if i = 1 then 90 else if i = 2 then 3 else if i = 3 then 23 else if i = 4 then 3 else if i = 5 then 23 else if i = 6 then 75 else 22

def lrow (V : Nat → Value) (last : Int) (q : Nat) : Value := if q = 8 then .int .i64 last else V q

structure LM (M : Nat → Prop) (w : World) (Wb : Nat) (V : Nat → Value) (C : Nat → List Value) (last : Int) : Prop where
  row : w.rowIs Wb 32 9 (lrow V last)
  own : ∀ i, i < 8 → w.ownsRow 0 (ety i) 1 (V i) (C i).length (C i)
  mw : M Wb
  mv : ∀ i, i < 8 → ∀ b, (V i).ownBlock = some b → M b
  ne : ∀ i j, i < 8 → j < 8 → i ≠ j → (V i).ownBlock = none ∨ (V i).ownBlock ≠ (V j).ownBlock

theorem ety_ne (i : Nat) : ety i ≠ 32 := by
  unfold ety
  repeat' split
  all_goals decide

theorem LM.other {M G : Nat → Prop} {w w' : World} {Wb : Nat} {V : Nat → Value} {C : Nat → List Value} {last : Int} (h : LM M w Wb V C last) (hf : Fr G w w') (hd : Dis M G) : LM M w' Wb V C last where
  row := h.row.of_block (hf.block _ h.row.lt (hd _ h.mw))
  own i hi := own_same (h.own i hi) (fun b hb => hf.block b ((h.own i hi).lt b hb).2 (hd b (h.mv i hi b hb)))
  mw := h.mw
  mv := h.mv
  ne := h.ne

theorem LM.below {M : Nat → Prop} {w w' : World} {Wb : Nat} {V : Nat → Value} {C : Nat → List Value} {last : Int} (h : LM M w Wb V C last) (hb : Below w.heap.size w w') : LM M w' Wb V C last :=
  h.other (G := fun _ => False) (Fr.of_below _ hb) (fun _ _ g => g)

theorem LM.mono {M M' : Nat → Prop} {w : World} {Wb : Nat} {V : Nat → Value} {C : Nat → List Value} {last : Int} (h : LM M w Wb V C last) (hM : ∀ q, M q → M' q) : LM M' w Wb V C last :=
  { h with mw := hM _ h.mw, mv := fun i hi b hb => hM _ (h.mv i hi b hb) }

/-- The record's row when a list has grown. -/
theorem LM.row' {M : Nat → Prop} {w w5 : World} {Wb : Nat} {V : Nat → Value} {C : Nat → List Value} {last : Int} (h : LM M w Wb V C last) {i : Nat} (hi : i < 8) {v5 : Value} (hg : Grew w w5 (V i) v5) : w5.rowIs Wb 32 9 (lrow V last) :=
  h.row.of_block (hg.by'.block _ h.row.lt (own_type (h.own i hi) h.row (fun e => ety_ne i e.symm)))

/-- A list grows, and the record has it. -/
theorem LM.push {M : Nat → Prop} {w w5 : World} {Wb : Nat} {V : Nat → Value} {C : Nat → List Value} {last : Int} (h : LM M w Wb V C last) {i : Nat} (hi : i < 8) {v5 : Value} {us : List Value} (hown : w5.ownsRow 0 (ety i) 1 v5 ((C i).length + us.length) (C i ++ us)) (hg : Grew w w5 (V i) v5) :
    LM (Nx M w.heap.size w5.heap.size) (w5.setCell ⟨Wb, i, none⟩ v5) Wb (upd V i v5) (upd C i (C i ++ us)) last ∧ Fr M w (w5.setCell ⟨Wb, i, none⟩ v5) := by
  have hrow5 := h.row' hi hg
  have hsame : ∀ j, j < 8 → j ≠ i → w5.ownsRow 0 (ety j) 1 (V j) (C j).length (C j) := fun j hj hne => (h.own j hj).kept hg.by' (h.ne j i hj hi hne)
  have hlt : ∀ j, j < 8 → ∀ b, (V j).ownBlock = some b → b < w.heap.size := fun j hj b hb => ((h.own j hj).lt b hb).2
  refine ⟨⟨(hrow5.set i v5).congr (fun q hq => ?_), fun j hj => ?_, .inl h.mw, fun j hj b hb => ?_, fun a b ha hb hab => ?_⟩, ?_⟩
  · unfold lrow upd
    by_cases e : q = i
    · subst e
      rw [if_pos rfl, if_neg (by omega), if_pos rfl]
    · rw [if_neg e, if_neg e]
  · by_cases e : j = i
    · subst e
      rw [upd_same, upd_same, List.length_append]
      exact own_setOther hown hrow5 (fun e => ety_ne j e.symm) v5
    · rw [upd_other _ _ e, upd_other _ _ e]
      exact own_setOther (hsame j hj e) hrow5 (fun e => ety_ne j e.symm) v5
  · by_cases e : j = i
    · subst e
      rw [upd_same] at hb
      rcases hg.at' with g | ⟨g, _⟩
      · exact .inl (h.mv j hj b (g ▸ hb))
      · have hlt5 := (hown.lt b hb).2
        rw [g] at hb
        cases hb
        exact .inr ⟨Nat.le_refl _, hlt5⟩
    · rw [upd_other _ _ e] at hb
      exact .inl (h.mv j hj b hb)
  · have key : ∀ j, j < 8 → j ≠ i → (v5.ownBlock = none ∨ v5.ownBlock ≠ (V j).ownBlock) ∧ ((V j).ownBlock = none ∨ (V j).ownBlock ≠ v5.ownBlock) := by
      intro j hj hne
      rcases hg.at' with g | ⟨g, _⟩
      · rw [g]
        exact ⟨h.ne i j hi hj (fun e => hne e.symm), h.ne j i hj hi hne⟩
      · rw [g]
        cases hvj : (V j).ownBlock with
        | none => exact ⟨.inr (by simp), .inl rfl⟩
        | some q =>
          have := hlt j hj q hvj
          exact ⟨.inr (by simp; omega), .inr (by simp; omega)⟩
    by_cases ea : a = i
    · subst ea
      rw [upd_same, upd_other _ _ (fun e => hab e.symm)]
      exact (key b hb (fun e => hab e.symm)).1
    · rw [upd_other _ _ ea]
      by_cases eb : b = i
      · subst eb
        rw [upd_same]
        exact (key a ha ea).2
      · rw [upd_other _ _ eb]
        exact h.ne a b ha hb hab
  · refine Fr.setCell ((Fr.of_grown hg.by').mono (fun b hb => h.mv i hi b hb)) (a := ⟨Wb, i, none⟩) (.inl h.mw) _

/-- The record's number is written. -/
theorem LM.setLast {M : Nat → Prop} {w : World} {Wb : Nat} {V : Nat → Value} {C : Nat → List Value} {last last' : Int} (h : LM M w Wb V C last) : LM M (w.setCell ⟨Wb, 8, none⟩ (.int .i64 last')) Wb V C last' ∧ Fr M w (w.setCell ⟨Wb, 8, none⟩ (.int .i64 last')) := by
  refine ⟨⟨(h.row.set 8 _).congr (fun q hq => ?_), fun j hj => own_setOther (h.own j hj) h.row (fun e => ety_ne j e.symm) _, h.mw, h.mv, h.ne⟩, (Fr.refl _ _).setCell (a := ⟨Wb, 8, none⟩) (.inl h.mw) _⟩
  unfold lrow
  by_cases e : q = 8
  · rw [if_pos e, if_pos e]
  · rw [if_neg e, if_neg e, if_neg e]

/-! ### the members -/

/-- A list that is kept: what it holds. -/
def ElAt (w : World) (E : Nat → Prop) (ty size : Nat) (f : Nat → Value) (v : Value) : Prop :=
  ∃ ao len cap, v = .slice ao len cap ∧ len ≤ 100000000000000 ∧ (1 ≤ len → ∃ g, ao = some ⟨g, 0, none⟩ ∧ E g ∧ (∃ sz F, w.rowIs g ty sz F) ∧ ∀ q, q < len * size → w.cell? ⟨g, q, none⟩ = some (f q))

theorem ElAt.other {w w' : World} {E G : Nat → Prop} {ty size : Nat} {f : Nat → Value} {v : Value} (h : ElAt w E ty size f v) (hf : Fr G w w') (hd : Dis E G) : ElAt w' E ty size f v := by
  obtain ⟨ao, len, cap, e, hl, hc⟩ := h
  refine ⟨ao, len, cap, e, hl, fun h1 => ?_⟩
  obtain ⟨g, e1, e2, ⟨sz, F, hr⟩, hq⟩ := hc h1
  have hb := hf.block g hr.lt (hd g e2)
  exact ⟨g, e1, e2, ⟨sz, F, hr.of_block hb⟩, fun q hq' => (cell_same hb).trans (hq q hq')⟩

theorem ElAt.mono {w : World} {E E' : Nat → Prop} {ty size : Nat} {f : Nat → Value} {v : Value} (h : ElAt w E ty size f v) (hE : ∀ q, E q → E' q) : ElAt w E' ty size f v := by
  obtain ⟨ao, len, cap, e, hl, hc⟩ := h
  refine ⟨ao, len, cap, e, hl, fun h1 => ?_⟩
  obtain ⟨g, e1, e2, e3⟩ := hc h1
  exact ⟨g, e1, hE g e2, e3⟩

/-- All members of the law's lists are as the law left them. -/
structure LE (E : Nat → Prop) (w : World) (C : Nat → List Value) : Prop where
  jlen : (C 1).length = (C 2).length
  je : ∀ (i : Nat) (v : Value), (C 1)[i]? = some v → ∃ mk : Int, (C 2)[i]? = some (.int .i64 mk) ∧ ElAt w E 93 5 (fun _ => .int .i64 mk) v
  ilen : (C 3).length = (C 4).length
  ie : ∀ (i : Nat) (v : Value), (C 3)[i]? = some v → ∃ mk : Int, (C 4)[i]? = some (.int .i64 mk) ∧ ElAt w E 3 1 (fun _ => .int .i64 mk) v
  te : ∀ v ∈ C 5, ElAt w E 3 1 neg7 v
  pe : ∀ v ∈ C 6, ElAt w E 86 2 neg7 v
  ke : ∀ v ∈ C 7, ElAt w E 77 4 nz v

theorem LE.other {E G : Nat → Prop} {w w' : World} {C : Nat → List Value} (h : LE E w C) (hf : Fr G w w') (hd : Dis E G) : LE E w' C where
  jlen := h.jlen
  je i v hv := by
    obtain ⟨mk, e1, e2⟩ := h.je i v hv
    exact ⟨mk, e1, e2.other hf hd⟩
  ilen := h.ilen
  ie i v hv := by
    obtain ⟨mk, e1, e2⟩ := h.ie i v hv
    exact ⟨mk, e1, e2.other hf hd⟩
  te v hv := (h.te v hv).other hf hd
  pe v hv := (h.pe v hv).other hf hd
  ke v hv := (h.ke v hv).other hf hd

theorem LE.mono {E E' : Nat → Prop} {w : World} {C : Nat → List Value} (h : LE E w C) (hE : ∀ q, E q → E' q) : LE E' w C where
  jlen := h.jlen
  je i v hv := by
    obtain ⟨mk, e1, e2⟩ := h.je i v hv
    exact ⟨mk, e1, e2.mono hE⟩
  ilen := h.ilen
  ie i v hv := by
    obtain ⟨mk, e1, e2⟩ := h.ie i v hv
    exact ⟨mk, e1, e2.mono hE⟩
  te v hv := (h.te v hv).mono hE
  pe v hv := (h.pe v hv).mono hE
  ke v hv := (h.ke v hv).mono hE

/-- Another list that was turned over. -/
theorem LE.addT {E : Nat → Prop} {w : World} {C : Nat → List Value} (h : LE E w C) {v : Value} (hv : ElAt w E 3 1 neg7 v) : LE E w (upd C 5 (C 5 ++ [v])) where
  jlen := h.jlen
  je := h.je
  ilen := h.ilen
  ie := h.ie
  te u hu := by
    rw [upd_same] at hu
    rcases List.mem_append.1 hu with g | g
    · exact h.te u g
    · rw [List.mem_singleton.1 g]
      exact hv
  pe := h.pe
  ke := h.ke

/-- Another list of jobs that was marked. -/
theorem LE.addJ {E : Nat → Prop} {w : World} {C : Nat → List Value} (h : LE E w C) {v : Value} {mk : Int} (hv : ElAt w E 93 5 (fun _ => .int .i64 mk) v) : LE E w (upd (upd C 1 (C 1 ++ [v])) 2 (C 2 ++ [.int .i64 mk])) where
  jlen := by
    show (upd (upd C 1 (C 1 ++ [v])) 2 (C 2 ++ [.int .i64 mk]) 1).length = (upd (upd C 1 (C 1 ++ [v])) 2 (C 2 ++ [.int .i64 mk]) 2).length
    rw [upd_same, upd_other _ _ (by decide), upd_same, List.length_append, List.length_append, h.jlen]
    rfl
  je i u hu := by
    rw [upd_same]
    rw [upd_other _ _ (by decide), upd_same] at hu
    rcases snoc_get hu with ⟨rfl, rfl⟩ | ⟨hlt, g⟩
    · exact ⟨mk, by rw [h.jlen]; simp, hv⟩
    · obtain ⟨mk', e1, e2⟩ := h.je i u g
      exact ⟨mk', by rw [List.getElem?_append_left (by rw [← h.jlen]; exact hlt)]; exact e1, e2⟩
  ilen := h.ilen
  ie := h.ie
  te := h.te
  pe := h.pe
  ke := h.ke

end Go.Proofs.YtdabcflpcklfiaaGreat
