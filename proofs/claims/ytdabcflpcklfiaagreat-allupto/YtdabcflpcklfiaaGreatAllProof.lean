/-
  PROVED HERE: whatever two lists of tasks, two lists of numbers and script it is given, of bulk at most 1048576 together, the law All answers true, and its arguments read behind the call as they read before: two News, two Analyzes, an Assign and a Check of the program answer one after the other as the document's do, then each step of the script is played on one or the other kernel and both answer as the document's kernel does; no list that came out of any of them, and none that was handed in, is changed behind the caller's back (P1 to P10).
  Conditions: the bulk of what is handed in is at most 1048576 (the statement itself, AllUptoSaid: the law's own lists grow by four for each Jobs, so they are longer than what came in).
-/
import Derived.Test.YtdabcflpcklfiaaGreatRows
import Derived.Test.YtdabcflpcklfiaaGreatA23
import Derived.Test.YtdabcflpcklfiaaGreatA51
import Derived.Test.YtdabcflpcklfiaaGreatA55
import Derived.Deep.CondSized
namespace Go.Proofs.YtdabcflpcklfiaaGreat
open Go.ChangeShapes Go.WideShapes Go.ChangeAt Go.RowKit

theorem Tryz.params5 : Tryz.f5.params = #[22, 23, 22, 23, 24] := by kernel_rfl

/-- The walk, for whatever tasks, numbers and script can be read. -/
theorem all_walk {H : Type} {enc : TypeId × Value → H} {W : World} {fuel fuel2 fuel3 fuel4 fuel5 : Nat} {v u v2 u2 s : Value} {x y x2 y2 z : DataW H × List MemPlace} (h : DataW.trod enc Tryz.prog W 0 (fun _ => true) true fuel 22 [v] = some x) (hr : ∀ n ∈ x.1.weights Tryz.prog 22, n ≤ reachBytes)
    (h2 : DataW.trod enc Tryz.prog W 0 (fun _ => true) true fuel2 23 [u] = some y) (hr2 : ∀ n ∈ y.1.weights Tryz.prog 23, n ≤ reachBytes) (h3 : DataW.trod enc Tryz.prog W 0 (fun _ => true) true fuel3 22 [v2] = some x2) (hr3 : ∀ n ∈ x2.1.weights Tryz.prog 22, n ≤ reachBytes)
    (h4 : DataW.trod enc Tryz.prog W 0 (fun _ => true) true fuel4 23 [u2] = some y2) (hr4 : ∀ n ∈ y2.1.weights Tryz.prog 23, n ≤ reachBytes) (h5 : DataW.trod enc Tryz.prog W 0 (fun _ => true) true fuel5 24 [s] = some z) (hr5 : ∀ n ∈ z.1.weights Tryz.prog 24, n ≤ reachBytes)
    (hk : Rows.uptoBulkAll [x.1, y.1, x2.1, y2.1, z.1] ≤ 1048576) :
    Calls Tryz.prog 5 #[v, u, v2, u2, s] W fun e w' => e = .returned (.bool true) ∧ Below W.heap.size W w' := by
  obtain ⟨A, n, cap, T, b, off, rfl, hn, ha⟩ := open_targ h hr
  obtain ⟨ao, pn, pc, Z, rfl, hp⟩ := open_parg h2 hr2
  obtain ⟨A2, n2, cap2, T2, b2, off2, rfl, hn2, ha2⟩ := open_targ h3 hr3
  obtain ⟨ao2, pn2, pc2, Z2, rfl, hp2⟩ := open_parg h4 hr4
  obtain ⟨xo, sn, xc, X, sb, so, rfl, hsn, hso, hx⟩ := open_ops h5 hr5
  simp only [Rows.uptoBulkAll] at hk
  exact all_any sort_recs ha hp ha2 hp2 (by omega) (by omega) (by omega) hso hx

set_option maxRecDepth 100000 in
theorem all_lifted (os : Os) (started : os.Started) (H : Type) (enc : TypeId × Value → H) (F : Stop.Interp) :
    ReturnsInHanded {} Tryz.checked os 5 .any ((Rows.OpenSpec.upto Rows.allSpec).pre6 enc Tryz.prog Tryz.f5 Rows.allUptoRow.domain false) (((Rows.OpenSpec.upto Rows.allSpec).at F).post enc Tryz.prog Tryz.f5 false true false false) := by
  refine returnsInHanded_of_cond_sized (C := Tryz.checked) (s := Rows.OpenSpec.upto Rows.allSpec) (k := Rows.uptoSmall) rfl Tryz.ownN started (by kernel_rfl) Tryz.func5
    (OpenSpec.witness (enc := enc) (C := Tryz.checked) (s := Rows.OpenSpec.upto Rows.allSpec) (k := Rows.uptoSmall) rfl false ⟨#[], #[.slice none 0 0, .slice none 0 0, .slice none 0 0, .slice none 0 0, .slice none 0 0], []⟩ 8 (by kernel_rfl) (by kernel_rfl) (by kernel_rfl)
      (x := ([.nil, .nil, .nil, .nil, .nil], [], [])) (by kernel_rfl) rfl (by kernel_rfl)) ?_
  intro W base args ds gs before hval0 hW hcnd hk0 hsz0 _
  have hval : ∀ (j : Nat) t v, Tryz.f5.params[j]? = some t → args[j]? = some v → Value.okWide Tryz.prog W .any base t v := hval0
  have hW' := hW
  obtain ⟨p, q, hA0, hV, rfl, hfz, hnd⟩ := hW
  have hA : DataW.TrodAll enc Tryz.prog W 0 (fun _ => true) true Tryz.f5.params.toList args.toList ds p := hA0
  have hsz : (DataW.weightsEach Tryz.prog (Tryz.f5.params.toList ++ Rows.allSpec.plain.varTypes Tryz.prog) (ds ++ gs)).all (· ≤ reachBytes) = true := hsz0
  rw [Tryz.params5] at hA hval hsz
  obtain ⟨v0, vs0, d0, ds0, p0, q0, hargs, rfl, rfl, h0, r0⟩ := trodAll_cons hA
  obtain ⟨v1, vs1, d1, ds1, p1, q1, hargs1, rfl, rfl, h1, r1⟩ := trodAll_cons r0
  obtain ⟨v2, vs2, d2, ds2, p2, q2, hargs2, rfl, rfl, h2, r2⟩ := trodAll_cons r1
  obtain ⟨v3, vs3, d3, ds3, p3, q3, hargs3, rfl, rfl, h3, r3⟩ := trodAll_cons r2
  obtain ⟨v4, vs4, d4, ds4, p4, q4, hargs4, rfl, rfl, h4, r4⟩ := trodAll_cons r3
  obtain ⟨rfl, rfl, rfl⟩ := trodAll_nil r4
  obtain rfl : args = #[v0, v1, v2, v3, v4] := by cases args; simp_all
  obtain ⟨rfl, rfl⟩ := trodVars_none hV
  obtain ⟨a0, len0, cap0, rfl⟩ := okWide_slice Tryz.underlying22 (hval 0 22 v0 rfl rfl)
  obtain ⟨a1, len1, cap1, rfl⟩ := okWide_slice Tryz.underlying23 (hval 1 23 v1 rfl rfl)
  obtain ⟨a2, len2, cap2, rfl⟩ := okWide_slice Tryz.underlying22 (hval 2 22 v2 rfl rfl)
  obtain ⟨a3, len3, cap3, rfl⟩ := okWide_slice Tryz.underlying23 (hval 3 23 v3 rfl rfl)
  obtain ⟨a4, len4, cap4, rfl⟩ := okWide_slice Tryz.underlying24 (hval 4 24 v4 rfl rfl)
  have k0 := h0
  have k1 := h1
  have k2 := h2
  have k3 := h3
  have k4 := h4
  have lt0 : ∀ x ∈ p0, x.block < W.heap.size := by obtain ⟨m, hm⟩ := k0; exact DataW.trod_lt m _ _ _ hm
  have lt1 : ∀ x ∈ p1, x.block < W.heap.size := by obtain ⟨m, hm⟩ := k1; exact DataW.trod_lt m _ _ _ hm
  have lt2 : ∀ x ∈ p2, x.block < W.heap.size := by obtain ⟨m, hm⟩ := k2; exact DataW.trod_lt m _ _ _ hm
  have lt3 : ∀ x ∈ p3, x.block < W.heap.size := by obtain ⟨m, hm⟩ := k3; exact DataW.trod_lt m _ _ _ hm
  have lt4 : ∀ x ∈ p4, x.block < W.heap.size := by obtain ⟨m, hm⟩ := k4; exact DataW.trod_lt m _ _ _ hm
  obtain ⟨fuel0, hf0⟩ := h0
  obtain ⟨fuel1, hf1⟩ := h1
  obtain ⟨fuel2, hf2⟩ := h2
  obtain ⟨fuel3, hf3⟩ := h3
  obtain ⟨fuel4, hf4⟩ := h4
  have hr0 : ∀ n ∈ d0.weights Tryz.prog 22, n ≤ reachBytes := fun n hn => by
    have := List.all_eq_true.1 hsz n (DataW.weights_mem_each (j := 0) (t := 22) rfl rfl n hn)
    simpa using this
  have hr1 : ∀ n ∈ d1.weights Tryz.prog 23, n ≤ reachBytes := fun n hn => by
    have := List.all_eq_true.1 hsz n (DataW.weights_mem_each (j := 1) (t := 23) rfl rfl n hn)
    simpa using this
  have hr2 : ∀ n ∈ d2.weights Tryz.prog 22, n ≤ reachBytes := fun n hn => by
    have := List.all_eq_true.1 hsz n (DataW.weights_mem_each (j := 2) (t := 22) rfl rfl n hn)
    simpa using this
  have hr3 : ∀ n ∈ d3.weights Tryz.prog 23, n ≤ reachBytes := fun n hn => by
    have := List.all_eq_true.1 hsz n (DataW.weights_mem_each (j := 3) (t := 23) rfl rfl n hn)
    simpa using this
  have hr4 : ∀ n ∈ d4.weights Tryz.prog 24, n ≤ reachBytes := fun n hn => by
    have := List.all_eq_true.1 hsz n (DataW.weights_mem_each (j := 4) (t := 24) rfl rfl n hn)
    simpa using this
  have hk : Rows.uptoBulkAll [d0, d1, d2, d3, d4] ≤ 1048576 := of_decide_eq_true hk0
  clear hA0 hval0 hsz0 hk0
  refine (all_walk (x := (d0, p0)) (y := (d1, p1)) (x2 := (d2, p2)) (y2 := (d3, p3)) (z := (d4, p4)) hf0 hr0 hf1 hr1 hf2 hr2 hf3 hr3 hf4 hr4 hk).mono fun e W' ⟨he, bel⟩ => ?_
  subst he
  exact ⟨_, rfl, _, _, _, [], _, [], hW', trodAll_mk1 (shut_bool Tryz.underlying4 _), (trodAll_cons_mk (Below.trod Tryz.laidOutN (by kernel_rfl) (of_decide_eq_true (by kernel_rfl)) k0 bel lt0) (trodAll_cons_mk (Below.trod Tryz.laidOutN (by kernel_rfl) (of_decide_eq_true (by kernel_rfl)) k1 bel lt1) (trodAll_cons_mk (Below.trod Tryz.laidOutN (by kernel_rfl) (of_decide_eq_true (by kernel_rfl)) k2 bel lt2) (trodAll_cons_mk (Below.trod Tryz.laidOutN (by kernel_rfl) (of_decide_eq_true (by kernel_rfl)) k3 bel lt3) (trodAll_cons_mk (Below.trod Tryz.laidOutN (by kernel_rfl) (of_decide_eq_true (by kernel_rfl)) k4 bel lt4) trodAll_mk0))))), rfl, bel.frame _, fun h => by cases h⟩

theorem all_upto : Rows.AllUptoSaid :=
  OpenClaim.holds_of_cond 5 Tryz.f5 rfl rfl rfl rfl rfl rfl rfl ⟨rfl, rfl, rfl, rfl, rfl⟩ rfl rfl rfl rfl rfl (by kernel_rfl) Tryz.func5 (by kernel_rfl)
    (of_decide_eq_true (by kernel_rfl)) (by unfold Func.isWrapper; first | (rw [if_pos (by decide +kernel)]; kernel_rfl) | (rw [if_neg (by decide +kernel)]; exact ⟨rfl, rfl⟩))
    (fun os started H enc _ F => all_lifted os started H enc F)

#print axioms all_upto
end Go.Proofs.YtdabcflpcklfiaaGreat
