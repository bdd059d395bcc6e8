import Derived.Test.YtdabcflpcklfiaaGreatA09
import Derived.Test.YtdabcflpcklfiaaGreatA23
import Derived.Deep.Cut
import Derived.Deep.CutRange
import Derived.Deep.RegionHeld
/- The machine of tasks that may be. -/
namespace Go.Proofs.YtdabcflpcklfiaaGreat
open Go.RowKit Cad

/-- What a kernel of these tasks and priorities is made of. -/
def sysOf (T : TD) (Z : Nat → Int) (n : Nat) : Sy := { n := n, P := T.P, J := T.J, Z := Z, L := T.L, K := T.K, N := T.N, C := ceilI T.K T.N T.L Z n }

theorem Tryz.info145 : (Tryz.prog.info? 145).map (fun i => (i.zero, i.size, i.bytes)) = some (some (.agg #[.int .i64 0, .int .i64 0, .int .i64 0, .slice none 0 0, .int .i64 0, .int .i64 0, .int .i64 0]), 7, 72) := by kernel_rfl

def zero7 (q : Nat) : Value := if q % 7 = 3 then .slice none 0 0 else .int .i64 0

theorem zero7_is (q : Nat) : ((Value.agg #[.int .i64 0, .int .i64 0, .int .i64 0, .slice none 0 0, .int .i64 0, .int .i64 0, .int .i64 0]).cells[q % (Value.agg #[.int .i64 0, .int .i64 0, .int .i64 0, .slice none 0 0, .int .i64 0, .int .i64 0, .int .i64 0]).cells.size]!) = zero7 q := by
  show (#[Value.int .i64 0, .int .i64 0, .int .i64 0, .slice none 0 0, .int .i64 0, .int .i64 0, .int .i64 0][q % 7]!) = _
  unfold zero7
  have h : q % 7 < 7 := Nat.mod_lt _ (by omega)
  generalize q % 7 = m at h
  match m, h with
  | 0, _ => rfl
  | 1, _ => rfl
  | 2, _ => rfl
  | 3, _ => rfl
  | 4, _ => rfl
  | 5, _ => rfl
  | 6, _ => rfl

/-- The machine's cells while it is made: ceilings apart, k holders set. -/
def mk0 (tb jm n k q : Nat) : Value :=
  if q = 3 then .slice (some ⟨tb, 0, none⟩) n n else if q < 12 then .int .i64 0 else if q < 20 then (if q - 12 < k then .int .i64 (-1) else .int .i64 0) else if q = 20 then .map (some jm) else .slice none 0 0

/-- The tasks' cells while they are made. -/
def tk0 (T : TD) (Z : Nat → Int) (pb pc : Nat → Nat) (k q : Nat) : Value :=
  if q / 7 < k then (if q % 7 = 0 then .int .i64 (T.P (q / 7)) else if q % 7 = 1 then .int .i64 (T.J (q / 7)) else if q % 7 = 2 then .int .i64 (Z (q / 7)) else if q % 7 = 3 then .slice (some ⟨pb (q / 7), 0, none⟩) (T.L (q / 7)) (pc (q / 7)) else .int .i64 0) else zero7 q

structure OfInv (w wr : World) (tb jm mb n : Nat) (T : TD) (Z : Nat → Int) (pb pc : Nat → Nat) (k : Nat) : Prop where
  mrow : wr.rowIs mb 142 22 (fc (mk0 tb jm n 8) (ceilI T.K T.N T.L Z k))
  trow : wr.rowIs tb 145 (n * 7) (tk0 T Z pb pc k)
  jmap : JMap wr jm 0 (fun _ _ => none)
  prow : ∀ t, t < k → StepRow wr (pb t) (pc t) (T.K t) (T.N t) (T.L t)
  below : Below w.heap.size w wr

theorem mach_row (w : World) (tb jm n : Nat) : (w.alloc (.cells #[.int .i64 0, .int .i64 0, .int .i64 0, .slice (some ⟨tb, 0, none⟩) n n, .int .i64 0, .int .i64 0, .int .i64 0, .int .i64 0, .int .i64 0, .int .i64 0, .int .i64 0, .int .i64 0, .int .i64 0, .int .i64 0, .int .i64 0, .int .i64 0, .int .i64 0, .int .i64 0, .int .i64 0, .int .i64 0, .map (some jm), .slice none 0 0] 142)).rowIs w.heap.size 142 22 (mk0 tb jm n 0) :=
  World.rowIs_alloc w #[.int .i64 0, .int .i64 0, .int .i64 0, .slice (some ⟨tb, 0, none⟩) n n, .int .i64 0, .int .i64 0, .int .i64 0, .int .i64 0, .int .i64 0, .int .i64 0, .int .i64 0, .int .i64 0, .int .i64 0, .int .i64 0, .int .i64 0, .int .i64 0, .int .i64 0, .int .i64 0, .int .i64 0, .int .i64 0, .map (some jm), .slice none 0 0] 142 _ (fun i hi => by
    have hi' : i < 22 := hi
    clear hi
    match i, hi' with
    | 0, _ => rfl
    | 1, _ => rfl
    | 2, _ => rfl
    | 3, _ => rfl
    | 4, _ => rfl
    | 5, _ => rfl
    | 6, _ => rfl
    | 7, _ => rfl
    | 8, _ => rfl
    | 9, _ => rfl
    | 10, _ => rfl
    | 11, _ => rfl
    | 12, _ => rfl
    | 13, _ => rfl
    | 14, _ => rfl
    | 15, _ => rfl
    | 16, _ => rfl
    | 17, _ => rfl
    | 18, _ => rfl
    | 19, _ => rfl
    | 20, _ => rfl
    | 21, _ => rfl
    | k + 22, h => exact absurd h (by omega))

theorem mk0_set {wr : World} {mb tb jm n k : Nat} (h : wr.rowIs mb 142 22 (mk0 tb jm n k)) (hk : k < 8) : (wr.setCell ⟨mb, 12 + k, none⟩ (.int .i64 (-1))).rowIs mb 142 22 (mk0 tb jm n (k + 1)) :=
  (h.set (12 + k) _).congr (fun q hq => by
    show (if q = 12 + k then Value.int .i64 (-1) else mk0 tb jm n k q) = _
    unfold mk0
    (repeat' split) <;> first | rfl | (exfalso; omega))

theorem OfInv.alloc {w wr : World} {tb jm mb n : Nat} {T : TD} {Z : Nat → Int} {pb pc : Nat → Nat} {k : Nat} (h : OfInv w wr tb jm mb n T Z pb pc k) (o : Obj) : OfInv w (wr.alloc o) tb jm mb n T Z pb pc k :=
  ⟨h.mrow.alloc o, h.trow.alloc o, h.jmap.of_block (Deep.blk_alloc_lt _ _ _ h.jmap.lt), fun t ht => (h.prow t ht).of_block (Deep.blk_alloc_lt _ _ _ (h.prow t ht).lt), h.below.alloc h.below.size o⟩

theorem OfInv.under {w wr w2 : World} {tb jm mb n : Nat} {T : TD} {Z : Nat → Int} {pb pc : Nat → Nat} {k : Nat} (h : OfInv w wr tb jm mb n T Z pb pc k) (hb : Below wr.heap.size wr w2) : OfInv w w2 tb jm mb n T Z pb pc k :=
  ⟨h.mrow.of_block (hb.block _ h.mrow.lt), h.trow.of_block (hb.block _ h.trow.lt), h.jmap.of_block (hb.block _ h.jmap.lt), fun t ht => (h.prow t ht).of_block (hb.block _ (h.prow t ht).lt), h.below.trans (hb.mono h.below.size)⟩

/-- Where the tasks stand when one more has been laid down, and its ceilings not yet. -/
structure OfMid (w wc : World) (tb jm mb n : Nat) (T : TD) (Z : Nat → Int) (pb pc : Nat → Nat) (k : Nat) : Prop where
  mrow : wc.rowIs mb 142 22 (fc (mk0 tb jm n 8) (ceilI T.K T.N T.L Z k))
  trow : wc.rowIs tb 145 (n * 7) (tk0 T Z pb pc (k + 1))
  jmap : JMap wc jm 0 (fun _ _ => none)
  prow : ∀ t, t < k + 1 → StepRow wc (pb t) (pc t) (T.K t) (T.N t) (T.L t)
  below : Below w.heap.size w wc

theorem tk0_set {wr : World} {tb n : Nat} {T : TD} {Z : Nat → Int} {pb pc : Nat → Nat} {k g c : Nat} (h : wr.rowIs tb 145 (n * 7) (tk0 T Z pb pc k)) :
    (((((((wr.setCell ⟨tb, k * 7, none⟩ (.int .i64 (T.P k))).setCell ⟨tb, k * 7 + 1, none⟩ (.int .i64 (T.J k))).setCell ⟨tb, k * 7 + 2, none⟩ (.int .i64 (Z k))).setCell ⟨tb, k * 7 + 3, none⟩ (.slice (some ⟨g, 0, none⟩) (T.L k) c)).setCell ⟨tb, k * 7 + 4, none⟩ (.int .i64 0)).setCell ⟨tb, k * 7 + 5, none⟩ (.int .i64 0)).setCell ⟨tb, k * 7 + 6, none⟩ (.int .i64 0)).rowIs tb 145 (n * 7) (tk0 T Z (upd pb k g) (upd pc k c) (k + 1)) := by
  refine (((((((h.set (k * 7) _).set (k * 7 + 1) _).set (k * 7 + 2) _).set (k * 7 + 3) _).set (k * 7 + 4) _).set (k * 7 + 5) _).set (k * 7 + 6) _).congr (fun q hq => ?_)
  by_cases e : q / 7 = k
  · have hm : q % 7 < 7 := Nat.mod_lt _ (by omega)
    have hq7 : q = k * 7 + q % 7 := by omega
    unfold tk0
    rw [e, if_pos (show k < k + 1 by omega), upd_same, upd_same]
    generalize q % 7 = r at hm hq7
    subst hq7
    match r, hm with
    | 0, _ => simp
    | 1, _ => simp
    | 2, _ => simp
    | 3, _ => simp
    | 4, _ => simp
    | 5, _ => simp
    | 6, _ => simp
  · rw [if_neg (by omega), if_neg (by omega), if_neg (by omega), if_neg (by omega), if_neg (by omega), if_neg (by omega), if_neg (by omega)]
    unfold tk0
    rw [upd_other _ _ e, upd_other _ _ e]
    by_cases c : q / 7 < k
    · rw [if_pos c, if_pos (show q / 7 < k + 1 by omega)]
    · rw [if_neg c, if_neg (show ¬ q / 7 < k + 1 by omega)]

theorem keep1 {w : World} {tb b i o : Nat} {v x : Value} (hne : b ≠ tb) (h : w.cell? ⟨b, i, none⟩ = some x) : (w.setCell ⟨tb, o, none⟩ v).cell? ⟨b, i, none⟩ = some x := by
  rw [← h]
  simp only [World.cell?]
  rw [Deep.blk_setCell_other _ _ _ _ (by simpa using hne)]

theorem keep7 {w : World} {tb b i o0 o1 o2 o3 o4 o5 o6 : Nat} {v0 v1 v2 v3 v4 v5 v6 x : Value} (hne : b ≠ tb) (h : w.cell? ⟨b, i, none⟩ = some x) :
    (((((((w.setCell ⟨tb, o0, none⟩ v0).setCell ⟨tb, o1, none⟩ v1).setCell ⟨tb, o2, none⟩ v2).setCell ⟨tb, o3, none⟩ v3).setCell ⟨tb, o4, none⟩ v4).setCell ⟨tb, o5, none⟩ v5).setCell ⟨tb, o6, none⟩ v6).cell? ⟨b, i, none⟩ = some x :=
  keep1 hne (keep1 hne (keep1 hne (keep1 hne (keep1 hne (keep1 hne (keep1 hne h))))))

theorem blk7 {w : World} {tb b o0 o1 o2 o3 o4 o5 o6 : Nat} {v0 v1 v2 v3 v4 v5 v6 : Value} (hne : b ≠ tb) :
    (((((((w.setCell ⟨tb, o0, none⟩ v0).setCell ⟨tb, o1, none⟩ v1).setCell ⟨tb, o2, none⟩ v2).setCell ⟨tb, o3, none⟩ v3).setCell ⟨tb, o4, none⟩ v4).setCell ⟨tb, o5, none⟩ v5).setCell ⟨tb, o6, none⟩ v6).heap[b]? = w.heap[b]? := by
  rw [Deep.blk_setCell_other _ _ _ _ (by simpa using hne), Deep.blk_setCell_other _ _ _ _ (by simpa using hne), Deep.blk_setCell_other _ _ _ _ (by simpa using hne), Deep.blk_setCell_other _ _ _ _ (by simpa using hne), Deep.blk_setCell_other _ _ _ _ (by simpa using hne), Deep.blk_setCell_other _ _ _ _ (by simpa using hne), Deep.blk_setCell_other _ _ _ _ (by simpa using hne)]

theorem OfInv.laid {w w2 : World} {jm mb n : Nat} {T : TD} {Z : Nat → Int} {pb pc : Nat → Nat} {k g c : Nat} (h : OfInv w w2 w.heap.size jm mb n T Z pb pc k) (hm : mb ≠ w.heap.size) (hj : jm ≠ w.heap.size) (hg : StepRow w2 g c (T.K k) (T.N k) (T.L k)) :
    OfMid w (((((((w2.setCell ⟨w.heap.size, k * 7, none⟩ (.int .i64 (T.P k))).setCell ⟨w.heap.size, k * 7 + 1, none⟩ (.int .i64 (T.J k))).setCell ⟨w.heap.size, k * 7 + 2, none⟩ (.int .i64 (Z k))).setCell ⟨w.heap.size, k * 7 + 3, none⟩ (.slice (some ⟨g, 0, none⟩) (T.L k) c)).setCell ⟨w.heap.size, k * 7 + 4, none⟩ (.int .i64 0)).setCell ⟨w.heap.size, k * 7 + 5, none⟩ (.int .i64 0)).setCell ⟨w.heap.size, k * 7 + 6, none⟩ (.int .i64 0)) w.heap.size jm mb n T Z (upd pb k g) (upd pc k c) k := by
  refine ⟨h.mrow.of_block (blk7 hm), tk0_set h.trow, h.jmap.of_block (blk7 hj), fun t ht => ?_, ?_⟩
  · by_cases e : t = k
    · subst e
      rw [upd_same, upd_same]
      obtain ⟨f, hf⟩ := hg.row
      exact hg.of_block (blk7 (row_ne hf h.trow (by decide)))
    · rw [upd_other _ _ e, upd_other _ _ e]
      have hp := h.prow t (by omega)
      obtain ⟨f, hf⟩ := hp.row
      exact hp.of_block (blk7 (row_ne hf h.trow (by decide)))
  · exact ((((((h.below.setCell (Nat.le_refl _) _).setCell (Nat.le_refl _) _).setCell (Nat.le_refl _) _).setCell (Nat.le_refl _) _).setCell (Nat.le_refl _) _).setCell (Nat.le_refl _) _).setCell (Nat.le_refl _) _

theorem OfMid.done {w wc wd : World} {tb jm mb n : Nat} {T : TD} {Z : Nat → Int} {pb pc : Nat → Nat} {k : Nat} (h : OfMid w wc tb jm mb n T Z pb pc k) (hw : w.heap.size ≤ mb) (hfr : Fr (fun i => i = mb) wc wd) (hm : wd.rowIs mb 142 22 (fc (mk0 tb jm n 8) (ceilI T.K T.N T.L Z (k + 1)))) : OfInv w wd tb jm mb n T Z pb pc (k + 1) :=
  ⟨hm, hfr.row h.trow (row_ne h.trow h.mrow (by decide)), h.jmap.of_block (hfr.block _ h.jmap.lt (h.jmap.ne h.mrow)), fun t ht => by
      obtain ⟨f, hf⟩ := (h.prow t ht).row
      exact (h.prow t ht).of_block (hfr.block _ (h.prow t ht).lt (row_ne hf h.mrow (by decide))), h.below.trans (hfr.below (by exact h.below.size) (fun i hi => by rw [hi]; exact hw))⟩

theorem ofInv_start {w w3 : World} {mb jm n : Nat} {T : TD} {Z : Nat → Int} (hm : w3.rowIs mb 142 22 (mk0 w.heap.size jm n 8)) (ht : w3.rowIs w.heap.size 145 (n * 7) zero7) (hj : JMap w3 jm 0 (fun _ _ => none)) (hb : Below w.heap.size w w3) : OfInv w w3 w.heap.size jm mb n T Z (fun _ => 0) (fun _ => 0) 0 := by
  refine ⟨hm.congr (fun q hq => ?_), ht.congr (fun q _ => by unfold tk0; rw [if_neg (by omega)]), hj, fun t ht => by omega, hb⟩
  unfold fc
  by_cases c : 4 ≤ q ∧ q < 12
  · rw [if_pos c]
    unfold mk0 ceilI
    rw [if_neg (by omega), if_pos c.2]
  · rw [if_neg c]

set_option maxRecDepth 100000 in
set_option maxHeartbeats 1000000 in
theorem mof_any (b off n cap po pof pcp : Nat) (T : TD) (Z : Nat → Int) (w : World) (hG : Good T n) (hb : b < w.heap.size) (hpo : po < w.heap.size) (hT : TasksAt w b off n T) (hZ : IntsAt w po pof n Z) :
    Calls Tryz.prog 44 #[.slice (some ⟨b, off, none⟩) n cap, .slice (some ⟨po, pof, none⟩) n pcp] w fun e w' => ∃ tb jm mb pb pc, e = .returned (.pointer (some ⟨mb, 0, none⟩)) ∧ w.heap.size ≤ tb ∧ w.heap.size ≤ jm ∧ w.heap.size ≤ mb ∧ (∀ t, t < n → w.heap.size ≤ pb t) ∧ OfInv w w' tb jm mb n T Z pb pc n := by
  obtain ⟨i6, hi6, hz60, hz61, hz62⟩ := info_parts Tryz.info145
  have HT : Hid (TasksAt w b off n T) := hT
  have HZ : Hid (IntsAt w po pof n Z) := hZ
  have HG : Hid (Good T n) := hG
  have h8 := hG.eight
  have hmm := @run_makeMap Tryz.prog
  clear hT hG hZ
  go_enter Tryz.func44, Tryz.ntmps44
  go_wp2_with (at_make; refine wpList_make_is _ rfl _ _ 137 rfl 145 i6 _ 7 72 Tryz.underlying137 hi6 hz60 hz61 hz62 _ _ _ _ n rfl rfl (by omega) (by omega) (by omega) (by omega) zero7 zero7_is ?_)
  intro w1 hr1 hg1 hs1
  have HB1 : Hid (Below w.heap.size w w1) := (Below.refl _ _).grown hg1 (Nat.le_refl _) (fun k hk => by cases hk)
  have HR1 : Hid (w1.rowIs w.heap.size 145 (n * 7) zero7) := hr1
  clear hr1 hg1
  go_wp2_with fail
  have HM2 : Hid (((w1.alloc (.map #[] 0)).alloc (.cells #[.int .i64 0, .int .i64 0, .int .i64 0, .slice (some ⟨w.heap.size, 0, none⟩) n n, .int .i64 0, .int .i64 0, .int .i64 0, .int .i64 0, .int .i64 0, .int .i64 0, .int .i64 0, .int .i64 0, .int .i64 0, .int .i64 0, .int .i64 0, .int .i64 0, .int .i64 0, .int .i64 0, .int .i64 0, .int .i64 0, .map (some (w.heap.size + 1)), .slice none 0 0] 142)).rowIs (w.heap.size + 1 + 1) 142 22 (mk0 w.heap.size (w.heap.size + 1) n 0)) := by
    have := mach_row (w1.alloc (.map #[] 0)) w.heap.size (w.heap.size + 1) n
    rw [World.size_alloc, hs1] at this
    exact this
  have HT2 : Hid (((w1.alloc (.map #[] 0)).alloc (.cells #[.int .i64 0, .int .i64 0, .int .i64 0, .slice (some ⟨w.heap.size, 0, none⟩) n n, .int .i64 0, .int .i64 0, .int .i64 0, .int .i64 0, .int .i64 0, .int .i64 0, .int .i64 0, .int .i64 0, .int .i64 0, .int .i64 0, .int .i64 0, .int .i64 0, .int .i64 0, .int .i64 0, .int .i64 0, .int .i64 0, .map (some (w.heap.size + 1)), .slice none 0 0] 142)).rowIs w.heap.size 145 (n * 7) zero7) := (HR1.out.alloc _).alloc _
  have HJ2 : Hid (JMap ((w1.alloc (.map #[] 0)).alloc (.cells #[.int .i64 0, .int .i64 0, .int .i64 0, .slice (some ⟨w.heap.size, 0, none⟩) n n, .int .i64 0, .int .i64 0, .int .i64 0, .int .i64 0, .int .i64 0, .int .i64 0, .int .i64 0, .int .i64 0, .int .i64 0, .int .i64 0, .int .i64 0, .int .i64 0, .int .i64 0, .int .i64 0, .int .i64 0, .int .i64 0, .map (some (w.heap.size + 1)), .slice none 0 0] 142)) (w.heap.size + 1) 0 (fun _ _ => none)) := by
    have := JMap.made w1
    rw [hs1] at this
    exact this.of_block (Deep.blk_alloc_lt _ _ _ (by simp; omega))
  have HB2 : Hid (Below w.heap.size w ((w1.alloc (.map #[] 0)).alloc (.cells #[.int .i64 0, .int .i64 0, .int .i64 0, .slice (some ⟨w.heap.size, 0, none⟩) n n, .int .i64 0, .int .i64 0, .int .i64 0, .int .i64 0, .int .i64 0, .int .i64 0, .int .i64 0, .int .i64 0, .int .i64 0, .int .i64 0, .int .i64 0, .int .i64 0, .int .i64 0, .int .i64 0, .int .i64 0, .int .i64 0, .map (some (w.heap.size + 1)), .slice none 0 0] 142))) := (HB1.out.alloc (by omega) _).alloc (by simp; omega) _
  generalize ((w1.alloc (.map #[] 0)).alloc (.cells #[.int .i64 0, .int .i64 0, .int .i64 0, .slice (some ⟨w.heap.size, 0, none⟩) n n, .int .i64 0, .int .i64 0, .int .i64 0, .int .i64 0, .int .i64 0, .int .i64 0, .int .i64 0, .int .i64 0, .int .i64 0, .int .i64 0, .int .i64 0, .int .i64 0, .int .i64 0, .int .i64 0, .int .i64 0, .int .i64 0, .map (some (w.heap.size + 1)), .slice none 0 0] 142)) = w2 at *
  generalize hmb : w.heap.size + 1 + 1 = mb at *
  generalize hjm : w.heap.size + 1 = jm at *
  have L1 : w.heap.size ≤ mb := by omega
  have L2 : w.heap.size ≤ jm := by omega
  have hmt : mb ≠ w.heap.size := by omega
  have hjt : jm ≠ w.heap.size := by omega
  have hmj : mb ≠ jm := by omega
  clear HB1 HR1 hs1 hi6 hz60 hz61 hz62
  go_loopw [15] (fun i wr => ∃ k : Nat, k ≤ 8 ∧ i = .int .i64 k ∧ wr.rowIs mb 142 22 (mk0 w.heap.size jm n k) ∧ wr.rowIs w.heap.size 145 (n * 7) zero7 ∧ JMap wr jm 0 (fun _ _ => none) ∧ Below w.heap.size w wr) (fun i _ => 8 - (intOf i).toNat)
  case atStart => exact ⟨0, Nat.zero_le _, rfl, HM2.out, HT2.out, HJ2.out, HB2.out⟩
  case round =>
    obtain ⟨k, hk, rfl, hm, ht, hj, hbel⟩ := hrel
    by_cases hlt : k < 8
    · have x : wr.cell? ⟨mb, 12 + k, none⟩ = some (mk0 w.heap.size jm n k (12 + k)) := hm.cell (by omega)
      have zf := hm.frozen (12 + k)
      have F1 : Hid ((wr.setCell ⟨mb, 12 + k, none⟩ (.int .i64 (-1))).rowIs mb 142 22 (mk0 w.heap.size jm n (k + 1))) := mk0_set hm hlt
      have F2 : Hid ((wr.setCell ⟨mb, 12 + k, none⟩ (.int .i64 (-1))).rowIs w.heap.size 145 (n * 7) zero7) := ht.setOther (by simpa using hmt.symm) _
      have F3 : Hid (JMap (wr.setCell ⟨mb, 12 + k, none⟩ (.int .i64 (-1))) jm 0 (fun _ _ => none)) := hj.of_block (Deep.blk_setCell_other _ _ _ _ (by simpa using hmj.symm))
      have F4 : Hid (Below w.heap.size w (wr.setCell ⟨mb, 12 + k, none⟩ (.int .i64 (-1)))) := hbel.setCell L1 _
      have hk8 : (k : Int) < 8 := by omega
      clear hm ht hj hbel
      go_wp2
      go_roundw
      case rel => exact ⟨k + 1, by omega, by go_num, F1.out, F2.out, F3.out, F4.out⟩
      case measure => simp [intOf]; omega
    · obtain rfl : k = 8 := by omega
      have HM : Hid (wr.rowIs mb 142 22 (mk0 w.heap.size jm n 8)) := hm
      have HTb : Hid (wr.rowIs w.heap.size 145 (n * 7) zero7) := ht
      have HJm : Hid (JMap wr jm 0 (fun _ _ => none)) := hj
      have HBl : Hid (Below w.heap.size w wr) := hbel
      clear hm ht hj hbel HM2 HT2 HJ2 HB2
      rename World => w3
      have HOF : Hid (OfInv w w3 w.heap.size jm mb n T Z (fun _ => 0) (fun _ => 0) 0) := ofInv_start HM.out HTb.out HJm.out HBl.out
      clear HM HTb HJm HBl
      go_wp2_with fail
      go_loopw [26] (fun i wr => ∃ (k : Nat) (pb pc : Nat → Nat), k ≤ n ∧ i = .int .i64 k ∧ (∀ t, t < k → w.heap.size ≤ pb t) ∧ OfInv w wr w.heap.size jm mb n T Z pb pc k) (fun i _ => n - (intOf i).toNat)
      case atStart => exact ⟨0, _, _, Nat.zero_le _, rfl, fun t ht => by omega, HOF.out⟩
      case round =>
        obtain ⟨k, pb, pc, hkn, rfl, hpb, hinv⟩ := hrel
        have HPB : Hid (∀ t, t < k → w.heap.size ≤ pb t) := hpb
        have HI : Hid (OfInv w wr w.heap.size jm mb n T Z pb pc k) := hinv
        have hsz := hinv.below.size
        by_cases hkl : k < n
        · obtain ⟨c0, c1, c2, c3, hp⟩ := TasksAt.below HT.out hb hinv.below k hkl
          have hL1 := (Cad.progB_inv (HG.out.prog k hkl)).1
          have hL2 := (Cad.progB_inv (HG.out.prog k hkl)).2.1
          obtain ⟨sb, so, hA, hsb0, hst0⟩ := (HT.out k hkl).2.2.2.2.2 hL1
          rw [hA] at c3
          have HST : Hid (∀ W : World, Below w.heap.size w W → StepsIn W sb so (T.K k) (T.N k) (T.L k)) := fun W hW i hi => ⟨(hW.cell (p := ⟨sb, _, none⟩) hsb0).trans (hst0 i hi).1, (hW.cell (p := ⟨sb, _, none⟩) hsb0).trans (hst0 i hi).2⟩
          have hsb : sb < wr.heap.size := by omega
          have hbwr : b < wr.heap.size := by omega
          have hpw : po < wr.heap.size := by omega
          have hmw := hinv.mrow.lt
          have htw := hinv.trow.lt
          clear hp hA hst0 hinv hpb
          go_upto_region 10 with fail
          have HW : Hid (OfInv w (wr.alloc (.cells #[.int .i64 (T.P k), .int .i64 (T.D k), .int .i64 (T.J k), .slice (some ⟨sb, so, none⟩) (T.L k) (T.C k)] 77)) w.heap.size jm mb n T Z pb pc k) := HI.out.alloc _
          have HLB : Hid ((wr.alloc (.cells #[.int .i64 (T.P k), .int .i64 (T.D k), .int .i64 (T.J k), .slice (some ⟨sb, so, none⟩) (T.L k) (T.C k)] 77)).rowIs wr.heap.size 77 4 (fun q => if q = 0 then .int .i64 (T.P k) else if q = 1 then .int .i64 (T.D k) else if q = 2 then .int .i64 (T.J k) else .slice (some ⟨sb, so, none⟩) (T.L k) (T.C k))) :=
            World.rowIs_alloc wr #[.int .i64 (T.P k), .int .i64 (T.D k), .int .i64 (T.J k), .slice (some ⟨sb, so, none⟩) (T.L k) (T.C k)] 77 _ (fun i hi => by
              have hi' : i < 4 := hi
              match i, hi' with
              | 0, _ => rfl
              | 1, _ => rfl
              | 2, _ => rfl
              | 3, _ => rfl)
          have HSW : Hid (StepsIn (wr.alloc (.cells #[.int .i64 (T.P k), .int .i64 (T.D k), .int .i64 (T.J k), .slice (some ⟨sb, so, none⟩) (T.L k) (T.C k)] 77)) sb so (T.K k) (T.N k) (T.L k)) := HST.out _ (HI.out.alloc _).below
          have hsbW : sb < (wr.alloc (.cells #[.int .i64 (T.P k), .int .i64 (T.D k), .int .i64 (T.J k), .slice (some ⟨sb, so, none⟩) (T.L k) (T.C k)] 77)).heap.size := by simp; omega
          have hlbW : wr.heap.size < (wr.alloc (.cells #[.int .i64 (T.P k), .int .i64 (T.D k), .int .i64 (T.J k), .slice (some ⟨sb, so, none⟩) (T.L k) (T.C k)] 77)).heap.size := by simp
          clear c0 c1 c2 c3
          generalize (wr.alloc (.cells #[.int .i64 (T.P k), .int .i64 (T.D k), .int .i64 (T.J k), .slice (some ⟨sb, so, none⟩) (T.L k) (T.C k)] 77)) = W at *
          have hzz : ∀ w2 : World, Below W.heap.size W w2 → OfInv w w2 w.heap.size jm mb n T Z pb pc k ∧ w2.cell? ⟨wr.heap.size, 0, none⟩ = some (.int .i64 (T.P k)) ∧ w2.cell? ⟨wr.heap.size, 2, none⟩ = some (.int .i64 (T.J k)) ∧ w2.cell? ⟨wr.heap.size, 3, none⟩ = some (.slice (some ⟨sb, so, none⟩) (T.L k) (T.C k)) ∧
              w2.cell? ⟨mb, 3, none⟩ = some (.slice (some ⟨w.heap.size, 0, none⟩) n n) ∧ w2.cell? ⟨po, pof + k, none⟩ = some (.int .i64 (Z k)) ∧ (∀ c, c < 7 → w2.cell? ⟨w.heap.size, k * 7 + c, none⟩ = some (tk0 T Z pb pc k (k * 7 + c)) ∧ w2.frozen? ⟨w.heap.size, k * 7 + c, none⟩ = false) := fun w2 hb2 => by
            have h2 := HW.out.under hb2
            have l2 := HLB.out.of_block (hb2.block _ HLB.out.lt)
            refine ⟨h2, by rw [l2.cell (by omega)]; rfl, by rw [l2.cell (by omega)]; rfl, by rw [l2.cell (by omega)]; rfl, by rw [h2.mrow.cell (by omega)]; rfl, (h2.below.cell (p := ⟨po, pof + k, none⟩) hpo).trans (HZ.out k hkl), fun c hc => ⟨h2.trow.cell (by omega), h2.trow.frozen _⟩⟩
          have HZZ : Hid _ := hzz
          clear hzz
          have HCL : Hid (Calls Tryz.prog 71 #[.slice (some ⟨sb, so, none⟩) (T.L k) (T.C k)] W.drew fun e w' => ∃ b c, e = .returned (.slice (some ⟨b, 0, none⟩) (T.L k) c) ∧ W.heap.size ≤ b ∧ StepRow w' b c (T.K k) (T.N k) (T.L k) ∧ Below W.heap.size W w') := by
            unfold Hid
            refine (clone_any sb so (T.L k) (T.C k) (T.K k) (T.N k) W.drew hL1 hL2 hsbW HSW.out).mono ?_
            rintro e w' ⟨b, c, he, h1, h2, h3⟩
            exact ⟨b, c, he, h1, h2, ⟨h3.os, h3.tape, h3.output, h3.size, h3.block⟩⟩
          obtain ⟨_, g0, g2, g3, m3, pz, _⟩ := HZZ.out W (Below.refl _ _)
          have n1 : wr.heap.size ≠ w.heap.size := by omega
          have n3 : po ≠ w.heap.size := by omega
          go_cut [26] from 26 to 57 (fun s26 wc => s26 = .int .i64 k ∧ ∃ (pb' pc' : Nat → Nat), (∀ t, t < k + 1 → w.heap.size ≤ pb' t) ∧ OfMid w wc w.heap.size jm mb n T Z pb' pc' k ∧ wc.cell? ⟨wr.heap.size, 3, none⟩ = some (.slice (some ⟨sb, so, none⟩) (T.L k) (T.C k)))
          case first =>
            go_region_held (fun w' => w'.cell? ⟨wr.heap.size, 0, none⟩ = some (.int .i64 (T.P k)) ∧ w'.cell? ⟨wr.heap.size, 2, none⟩ = some (.int .i64 (T.J k)) ∧ w'.cell? ⟨wr.heap.size, 3, none⟩ = some (.slice (some ⟨sb, so, none⟩) (T.L k) (T.C k)) ∧ w'.cell? ⟨mb, 3, none⟩ = some (.slice (some ⟨w.heap.size, 0, none⟩) n n) ∧ w'.cell? ⟨po, pof + k, none⟩ = some (.int .i64 (Z k))) (first | go_keep | exact ⟨keep7 n1 r1, keep7 n1 r2, keep7 n1 r3, keep7 hmt r4, keep7 n3 r5⟩)
              ((go_at_call 71; refine (HCL.out).mono ?_; rintro e w2 ⟨nb, nc, rfl, hnb, hnr, hb2⟩; obtain ⟨r0, r1, r2, r3, r4, r5, r6⟩ := HZZ.out w2 hb2; have r60 := r6 0 (by omega); have r61 := r6 1 (by omega); have r62 := r6 2 (by omega); have r63 := r6 3 (by omega); have r64 := r6 4 (by omega); have r65 := r6 5 (by omega); have r66 := r6 6 (by omega); obtain ⟨s0, t0⟩ := r60; obtain ⟨s1, t1⟩ := r61; obtain ⟨s2, t2⟩ := r62; obtain ⟨s3, t3⟩ := r63; obtain ⟨s4, t4⟩ := r64; obtain ⟨s5, t5⟩ := r65; obtain ⟨s6, t6⟩ := r66; clear r6; rw [Nat.add_zero] at s0 t0))
            all_goals
              have HMID := r0.laid hmt hjt hnr
              have h3' := keep7 (tb := w.heap.size) (o0 := k * 7) (o1 := k * 7 + 1) (o2 := k * 7 + 2) (o3 := k * 7 + 3) (o4 := k * 7 + 4) (o5 := k * 7 + 5) (o6 := k * 7 + 6) (v0 := .int .i64 (T.P k)) (v1 := .int .i64 (T.J k)) (v2 := .int .i64 (Z k)) (v3 := .slice (some ⟨nb, 0, none⟩) (T.L k) nc) (v4 := .int .i64 0) (v5 := .int .i64 0) (v6 := .int .i64 0) n1 r3
              go_wp2_with fail
              go_meet
              case rel =>
                refine ⟨rfl, upd pb k nb, upd pc k nc, fun t ht => ?_, HMID, h3'⟩
                by_cases e : t = k
                · rw [e, upd_same]; omega
                · rw [upd_other _ _ e]; exact HPB.out t (by omega)
          case rest =>
            obtain ⟨rfl, pb', pc', hpb', hmid, h3⟩ := hcut
            have HMID : Hid (OfMid w wc w.heap.size jm mb n T Z pb' pc' k) := hmid
            have HPB' : Hid (∀ t, t < k + 1 → w.heap.size ≤ pb' t) := hpb'
            have pz' : wc.cell? ⟨po, pof + k, none⟩ = some (.int .i64 (Z k)) := (hmid.below.cell (p := ⟨po, pof + k, none⟩) hpo).trans (HZ.out k hkl)
            have hszc := hmid.below.size
            clear hmid hpb' g0 g2 g3 m3 pz
            have HRC : Hid (Calls Tryz.prog 72 #[.pointer (some ⟨mb, 0, none⟩), .slice (some ⟨sb, so, none⟩) (T.L k) (T.C k), .int .i64 (Z k)] wc.drew fun e w' => e = .returned (.tuple #[]) ∧ OfInv w w' w.heap.size jm mb n T Z pb' pc' (k + 1)) := by
              unfold Hid
              refine (raise_any mb sb so (T.L k) (T.C k) (T.K k) (T.N k) (ceilI T.K T.N T.L Z k) (Z k) (mk0 w.heap.size jm n 8) wc.drew hL2 (by show sb < wc.heap.size; omega) (by omega) HMID.out.mrow.drew (HST.out wc HMID.out.below) (fun i hi h2 => ?_)).mono ?_
              · have hso := (Cad.progB_inv (HG.out.prog k hkl)).2.2.2.steps i hi
                rcases hso with h | h | h
                · omega
                · exact ⟨h.2.1, h.2.2⟩
                · omega
              · rintro e w' ⟨rfl, hrow, hfr⟩
                exact ⟨rfl, OfMid.done HMID.out L1 ((Fr.refl (fun i => i = mb) wc).drew.then hfr) hrow⟩
            go_wp2_with fail
            go_region_with (go_at_call 72; refine (HRC.out).mono ?_; rintro e w5 ⟨rfl, hinv5⟩)
            all_goals
              have HI5 : Hid (OfInv w w5 w.heap.size jm mb n T Z pb' pc' (k + 1)) := hinv5
              clear hinv5
              go_wp2
              go_roundw
              case rel => exact ⟨k + 1, pb', pc', by omega, by go_num, HPB'.out, HI5.out⟩
              case measure => simp [intOf]; omega
        · obtain rfl : k = n := by omega
          go_wp2
          go_ret
          exact ⟨w.heap.size, jm, mb, pb, pc, rfl, Nat.le_refl _, L2, L1, HPB.out, HI.out⟩
end Go.Proofs.YtdabcflpcklfiaaGreat
