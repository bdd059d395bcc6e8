/-
  PROVED HERE: whatever tasks and numbers it is given, the law Analyzed answers true, and its arguments read behind the call as they read before: the program's Analyze answers just what the document's answer does, each bound, error and place (P4), and nothing that is handed in is written into (P2).
  Conditions: none (the statement itself, AnalyzedSaid).
-/
import Derived.Test.YtdabcflpcklfiaaRows
import Derived.Test.YtdabcflpcklfiaaOt
import Derived.Test.YtdabcflpcklfiaaXc
import Derived.ChangeSlices
import Derived.ProofKit
import Derived.OpenShut
import Derived.SizedLaws
namespace Go.Proofs.Ytdabcflpcklfiaa
open Go.ChangeShapes Go.WideShapes Go.ChangeAt Go.RowKit

theorem Try.own4 : ownKnob Try.prog.godebug = none := by kernel_rfl
theorem Try.laidOut4 : laidOutB Try.prog = true := by kernel_rfl
theorem Try.bytes3 : Try.prog.bytesOf 3 = 8 := by kernel_rfl

theorem reach_eq4 : reachBytes = 140737488351232 := rfl

/-- A list of numbers that came in, opened. -/
theorem open_numbers {H : Type} {enc : TypeId × Value → H} {W : World} {fuel : Nat} {v : Value} {x : DataW H × List MemPlace} (h : DataW.trod enc Try.prog W 0 (fun _ => true) true fuel 26 [v] = some x) (hr : ∀ n ∈ x.1.weights Try.prog 26, n ≤ reachBytes) :
    ∃ (A : Option Addr) (n cap : Nat) (Z : Nat → Int), v = .slice A n cap ∧ n * 8 ≤ reachBytes ∧ (1 ≤ n → ∃ b off, A = some ⟨b, off, none⟩ ∧ b < W.heap.size ∧ IntsAt W b off n Z) := by
  rcases open_ints Try.underlying26 Try.underlying3 Try.cells3 h with ⟨hv, _⟩ | ⟨a, l, c, zs, hv, _, hlc, _, hzl, rfl, hx, _⟩
  · cases hv
    exact ⟨none, 0, 0, fun _ => 0, rfl, by decide, fun h => by omega⟩
  · simp only [if_true] at hzl
    refine ⟨some a, l, c, fun i => zs.getD i 0, by simpa using hv, ?_, fun h1 => ?_⟩
    · have := hr (((lits .i64 (zs.take l)).length + (lits .i64 (zs.drop l)).length) * Try.prog.bytesOf 3) (by simp only [DataW.weights, Try.underlying26, List.mem_cons, List.mem_append]; exact .inl rfl)
      rw [Try.bytes3] at this
      simp [lits] at this
      omega
    · obtain ⟨b, off, spot⟩ := a
      have h0 := hx 0 (by omega)
      have hspot : spot = none := by simpa [Addr.add] using World.cell?_spot h0
      subst hspot
      refine ⟨b, off, rfl, ?_, fun i hi => ?_⟩
      · rw [Addr.add_lit] at h0
        exact World.block_lt_of_cell? W _ h0
      · have := hx i (by omega)
        rwa [Addr.add_lit] at this

/-- The walk, for whatever tasks and numbers can be read. -/
theorem analyzed_walk {H : Type} {enc : TypeId × Value → H} {W : World} {fuel fuel2 : Nat} {v u : Value} {x y : DataW H × List MemPlace} (h : DataW.trod enc Try.prog W 0 (fun _ => true) true fuel 22 [v] = some x) (hr : ∀ n ∈ x.1.weights Try.prog 22, n ≤ reachBytes)
    (h2 : DataW.trod enc Try.prog W 0 (fun _ => true) true fuel2 26 [u] = some y) (hr2 : ∀ n ∈ y.1.weights Try.prog 26, n ≤ reachBytes) :
    Calls Try.prog 4 #[v, u] W fun e w' => e = .returned (.bool true) ∧ Below W.heap.size W w' := by
  obtain ⟨A, n, cap, T, rfl, hn, hst⟩ := open_tasks h hr
  obtain ⟨ao, pn, pc, Z, rfl, hp, hz⟩ := open_numbers h2 hr2
  rw [reach_eq4] at hn hp
  by_cases h0 : n = 0
  · subst h0
    exact law4_none A cap ao pn pc T Z W hp hz
  · obtain ⟨b, off, rfl, ht⟩ := hst (by omega)
    have hb : b < W.heap.size := World.block_lt_of_cell? W _ (ht 0 (by omega)).c0
    have hL : ∀ i, i < n → T.L i * 16 ≤ 140737488351232 := fun i hi => by have := (ht i hi).len; rw [reach_eq4] at this; exact this
    refine law4_some b off n cap ao pn pc T Z W (by omega) hn hL hp hb (fun i hi => ?_) (fun i hi h1 a ha => ?_) hz
    · have t := ht i hi
      have c1 := t.c1
      have c2 := t.c2
      have c3 := t.c3
      rw [Addr.add_lit] at c1 c2 c3
      refine ⟨t.c0, c1, c2, c3, by have := hL i hi; omega, fun h1 => ?_⟩
      obtain ⟨pb, po, e, hs⟩ := t.steps h1
      exact ⟨pb, po, e, World.block_lt_of_cell? W _ (hs 0 (by omega)).1, hs⟩
    · obtain ⟨pb, po, e, hs⟩ := (ht i hi).steps h1
      rw [e] at ha
      cases ha
      exact World.block_lt_of_cell? W _ (hs 0 (by omega)).1

set_option maxRecDepth 100000 in
theorem analyzed_lifted (os : Os) (started : os.Started) (H : Type) (enc : TypeId × Value → H) :
    ReturnsInHanded {} Try.checked os 4 .any (Rows.analyzedSpec.pre6 enc Try.prog Try.f4 Rows.analyzedRow.domain false) (Rows.analyzedSpec.post enc Try.prog Try.f4 false true false false) := by
  refine returnsInHanded_of_change_sized (C := Try.checked) Try.own4 started (by kernel_rfl) Try.func4
    (ChangeSpec.witness6 (enc := enc) (C := Try.checked) false ⟨#[], #[.slice none 0 0, .slice none 0 0], []⟩ 8 (by kernel_rfl) (by kernel_rfl) (by kernel_rfl) (by kernel_rfl)) ?_
  intro W base args ds gs before hval0 hW hcnd hsz0 _
  have hval : ∀ (j : Nat) t v, Try.f4.params[j]? = some t → args[j]? = some v → Value.okWide Try.prog W .any base t v := hval0
  have hW' := hW
  obtain ⟨p, q, hA0, hV, rfl, hfz, hnd⟩ := hW
  have hA : DataW.TrodAll enc Try.prog W 0 (fun _ => true) true Try.f4.params.toList args.toList ds p := hA0
  have hsz : (DataW.weightsEach Try.prog (Try.f4.params.toList ++ Rows.analyzedSpec.plain.varTypes Try.prog) (ds ++ gs)).all (· ≤ reachBytes) = true := hsz0
  rw [Try.params4] at hA hval hsz
  obtain ⟨v0, vs0, d0, ds0, p0, q0, hargs, rfl, rfl, h0, r0⟩ := trodAll_cons hA
  obtain ⟨v1, vs1, d1, ds1, p1, q1, hargs1, rfl, rfl, h1, r1⟩ := trodAll_cons r0
  obtain ⟨rfl, rfl, rfl⟩ := trodAll_nil r1
  obtain rfl : args = #[v0, v1] := by cases args; simp_all
  obtain ⟨rfl, rfl⟩ := trodVars_none hV
  obtain ⟨a0, len0, cap0, rfl⟩ := okWide_slice Try.underlying22 (hval 0 22 v0 rfl rfl)
  obtain ⟨a1, len1, cap1, rfl⟩ := okWide_slice Try.underlying26 (hval 1 26 v1 rfl rfl)
  have k0 := h0
  have k1 := h1
  have lt0 : ∀ x ∈ p0, x.block < W.heap.size := by obtain ⟨m, hm⟩ := k0; exact DataW.trod_lt m _ _ _ hm
  have lt1 : ∀ x ∈ p1, x.block < W.heap.size := by obtain ⟨m, hm⟩ := k1; exact DataW.trod_lt m _ _ _ hm
  obtain ⟨fuel, hf⟩ := h0
  obtain ⟨fuel1, hf1⟩ := h1
  have hr : ∀ n ∈ d0.weights Try.prog 22, n ≤ reachBytes := fun n hn => by
    have := List.all_eq_true.1 hsz n (DataW.weights_mem_each (j := 0) (t := 22) rfl rfl n hn)
    simpa using this
  have hr1 : ∀ n ∈ d1.weights Try.prog 26, n ≤ reachBytes := fun n hn => by
    have := List.all_eq_true.1 hsz n (DataW.weights_mem_each (j := 1) (t := 26) rfl rfl n hn)
    simpa using this
  clear hA0 hval0 hsz0
  refine (analyzed_walk (x := (d0, p0)) (y := (d1, p1)) hf hr hf1 hr1).mono fun e W' ⟨he, bel⟩ => ?_
  subst he
  exact ⟨_, rfl, _, _, _, [], _, [], hW', trodAll_mk1 (shut_bool Try.underlying4 _), (trodAll_cons_mk (Below.trod Try.laidOut4 (by kernel_rfl) (of_decide_eq_true (by kernel_rfl)) k0 bel lt0) (trodAll_cons_mk (Below.trod Try.laidOut4 (by kernel_rfl) (of_decide_eq_true (by kernel_rfl)) k1 bel lt1) trodAll_mk0)), rfl, bel.frame _, fun h => by cases h⟩

theorem analyzed_holds : Rows.AnalyzedSaid :=
  OpenClaim.holds_of_wide 4 Try.f4 rfl rfl rfl rfl rfl rfl rfl ⟨rfl, rfl, rfl, rfl, rfl⟩ rfl rfl rfl rfl rfl (by kernel_rfl) Try.func4 (by kernel_rfl)
    (of_decide_eq_true (by kernel_rfl)) (by unfold Func.isWrapper; first | (rw [if_pos (by decide +kernel)]; kernel_rfl) | (rw [if_neg (by decide +kernel)]; exact ⟨rfl, rfl⟩))
    (fun os started H enc _ => analyzed_lifted os started H enc)

#print axioms analyzed_holds
end Go.Proofs.Ytdabcflpcklfiaa
