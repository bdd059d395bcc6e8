/-
  PROVED HERE: whatever tasks it is given, the law Assigned answers true, and its argument reads behind the call as it read before: the program's Assign answers just what the document's answer does, priorities, error and place (P5), and nothing that is handed in is written into (P2).
  Conditions: none (the statement itself, AssignedSaid).
-/
import Derived.Test.YtdabcflpcklfiaaRows
import Derived.Test.YtdabcflpcklfiaaK36
import Derived.Test.YtdabcflpcklfiaaQd
import Derived.ProofKit
import Derived.OpenShut
import Derived.SizedLaws
namespace Go.Proofs.Ytdabcflpcklfiaa
open Go.ChangeShapes Go.WideShapes Go.ChangeAt Go.RowKit

theorem Try.own5 : ownKnob Try.prog.godebug = none := by kernel_rfl
theorem Try.laidOut5 : laidOutB Try.prog = true := by kernel_rfl

theorem reach_eq5 : reachBytes = 140737488351232 := rfl

/-- The walk, for whatever tasks can be read. -/
theorem assigned_walk {H : Type} {enc : TypeId × Value → H} {W : World} {fuel : Nat} {v : Value} {x : DataW H × List MemPlace} (h : DataW.trod enc Try.prog W 0 (fun _ => true) true fuel 22 [v] = some x) (hr : ∀ n ∈ x.1.weights Try.prog 22, n ≤ reachBytes) :
    Calls Try.prog 5 #[v] W fun e w' => e = .returned (.bool true) ∧ Below W.heap.size W w' := by
  obtain ⟨A, n, cap, T, rfl, hn, hst⟩ := open_tasks h hr
  rw [reach_eq5] at hn
  by_cases h0 : n = 0
  · subst h0
    exact law5_none A cap T W
  · obtain ⟨b, off, rfl, ht⟩ := hst (by omega)
    have hb : b < W.heap.size := World.block_lt_of_cell? W _ (ht 0 (by omega)).c0
    have hL : ∀ i, i < n → T.L i * 16 ≤ 140737488351232 := fun i hi => by have := (ht i hi).len; rw [reach_eq5] at this; exact this
    refine law5_some b off n cap T W (by omega) hn hL hb (fun i hi => ?_) (fun i hi h1 a ha => ?_)
    · have t := ht i hi
      have c1 := t.c1
      have c2 := t.c2
      have c3 := t.c3
      rw [Addr.add_lit] at c1 c2 c3
      refine ⟨t.c0, c1, c2, c3, by have := hL i hi; omega, fun h1 => ?_⟩
      obtain ⟨pb, po, e, hs⟩ := t.steps h1
      exact ⟨pb, po, e, World.block_lt_of_cell? W _ (hs 0 (by omega)).1, hs⟩
    · obtain ⟨pb, po, e, hs⟩ := (ht i hi).steps h1
      rw [e] at ha
      cases ha
      exact World.block_lt_of_cell? W _ (hs 0 (by omega)).1

set_option maxRecDepth 100000 in
theorem assigned_lifted (os : Os) (started : os.Started) (H : Type) (enc : TypeId × Value → H) :
    ReturnsInHanded {} Try.checked os 5 .any (Rows.assignedSpec.pre6 enc Try.prog Try.f5 Rows.assignedRow.domain false) (Rows.assignedSpec.post enc Try.prog Try.f5 false true false false) := by
  refine returnsInHanded_of_change_sized (C := Try.checked) Try.own5 started (by kernel_rfl) Try.func5
    (ChangeSpec.witness6 (enc := enc) (C := Try.checked) false ⟨#[], #[.slice none 0 0], []⟩ 8 (by kernel_rfl) (by kernel_rfl) (by kernel_rfl) (by kernel_rfl)) ?_
  intro W base args ds gs before hval0 hW hcnd hsz0 _
  have hval : ∀ (j : Nat) t v, Try.f5.params[j]? = some t → args[j]? = some v → Value.okWide Try.prog W .any base t v := hval0
  have hW' := hW
  obtain ⟨p, q, hA0, hV, rfl, hfz, hnd⟩ := hW
  have hA : DataW.TrodAll enc Try.prog W 0 (fun _ => true) true Try.f5.params.toList args.toList ds p := hA0
  have hsz : (DataW.weightsEach Try.prog (Try.f5.params.toList ++ Rows.assignedSpec.plain.varTypes Try.prog) (ds ++ gs)).all (· ≤ reachBytes) = true := hsz0
  rw [Try.params5] at hA hval hsz
  obtain ⟨v0, vs0, d0, ds0, p0, q0, hargs, rfl, rfl, h0, r0⟩ := trodAll_cons hA
  obtain ⟨rfl, rfl, rfl⟩ := trodAll_nil r0
  obtain rfl : args = #[v0] := by cases args; simp_all
  obtain ⟨rfl, rfl⟩ := trodVars_none hV
  obtain ⟨a0, len0, cap0, rfl⟩ := okWide_slice Try.underlying22 (hval 0 22 v0 rfl rfl)
  have k0 := h0
  have lt0 : ∀ x ∈ p0, x.block < W.heap.size := by obtain ⟨m, hm⟩ := k0; exact DataW.trod_lt m _ _ _ hm
  obtain ⟨fuel, hf⟩ := h0
  have hr : ∀ n ∈ d0.weights Try.prog 22, n ≤ reachBytes := fun n hn => by
    have := List.all_eq_true.1 hsz n (DataW.weights_mem_each (j := 0) (t := 22) rfl rfl n hn)
    simpa using this
  clear hA0 hval0 hsz0
  refine (assigned_walk (x := (d0, p0)) hf hr).mono fun e W' ⟨he, bel⟩ => ?_
  subst he
  exact ⟨_, rfl, _, _, _, [], _, [], hW', trodAll_mk1 (shut_bool Try.underlying4 _), (trodAll_cons_mk (Below.trod Try.laidOut5 (by kernel_rfl) (of_decide_eq_true (by kernel_rfl)) k0 bel lt0) trodAll_mk0), rfl, bel.frame _, fun h => by cases h⟩

theorem assigned_holds : Rows.AssignedSaid :=
  OpenClaim.holds_of_wide 5 Try.f5 rfl rfl rfl rfl rfl rfl rfl ⟨rfl, rfl, rfl, rfl, rfl⟩ rfl rfl rfl rfl rfl (by kernel_rfl) Try.func5 (by kernel_rfl)
    (of_decide_eq_true (by kernel_rfl)) (by unfold Func.isWrapper; first | (rw [if_pos (by decide +kernel)]; kernel_rfl) | (rw [if_neg (by decide +kernel)]; exact ⟨rfl, rfl⟩))
    (fun os started H enc _ => assigned_lifted os started H enc)

#print axioms assigned_holds
end Go.Proofs.Ytdabcflpcklfiaa
