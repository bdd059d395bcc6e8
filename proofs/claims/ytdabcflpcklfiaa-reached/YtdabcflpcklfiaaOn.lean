import Derived.Test.YtdabcflpcklfiaaRows
import Derived.Test.YtdabcflpcklfiaaOt
import Derived.Test.YtdabcflpcklfiaaWt
import Derived.ChangeSlices
import Derived.ProofKit
import Derived.OpenShut
import Derived.SizedLaws
/- A list of numbers that came in, opened; tasks that came in, as the walks take them. -/
namespace Go.Proofs.Ytdabcflpcklfiaa
open Go.ChangeShapes Go.WideShapes Go.ChangeAt Go.RowKit

theorem Try.ownN : ownKnob Try.prog.godebug = none := by kernel_rfl
theorem Try.laidOutN : laidOutB Try.prog = true := by kernel_rfl
theorem Try.bytesN : Try.prog.bytesOf 3 = 8 := by kernel_rfl

theorem reach_eqN : reachBytes = 140737488351232 := rfl

/-- A list of numbers that came in, opened. -/
theorem open_nums {H : Type} {enc : TypeId × Value → H} {W : World} {fuel : Nat} {v : Value} {x : DataW H × List MemPlace} (h : DataW.trod enc Try.prog W 0 (fun _ => true) true fuel 26 [v] = some x) (hr : ∀ n ∈ x.1.weights Try.prog 26, n ≤ reachBytes) :
    ∃ (A : Option Addr) (n cap : Nat) (Z : Nat → Int), v = .slice A n cap ∧ n * 8 ≤ reachBytes ∧ (1 ≤ n → ∃ b off, A = some ⟨b, off, none⟩ ∧ b < W.heap.size ∧ IntsAt W b off n Z) := by
  rcases open_ints Try.underlying26 Try.underlying3 Try.cells3 h with ⟨hv, _⟩ | ⟨a, l, c, zs, hv, _, hlc, _, hzl, rfl, hx, _⟩
  · cases hv
    exact ⟨none, 0, 0, fun _ => 0, rfl, by decide, fun h => by omega⟩
  · simp only [if_true] at hzl
    refine ⟨some a, l, c, fun i => zs.getD i 0, by simpa using hv, ?_, fun h1 => ?_⟩
    · have := hr (((lits .i64 (zs.take l)).length + (lits .i64 (zs.drop l)).length) * Try.prog.bytesOf 3) (by simp only [DataW.weights, Try.underlying26, List.mem_cons, List.mem_append]; exact .inl rfl)
      rw [Try.bytesN] at this
      simp [lits] at this
      omega
    · obtain ⟨b, off, spot⟩ := a
      have h0 := hx 0 (by omega)
      have hspot : spot = none := by simpa [Addr.add] using World.cell?_spot h0
      subst hspot
      refine ⟨b, off, rfl, ?_, fun i hi => ?_⟩
      · rw [Addr.add_lit] at h0
        exact World.block_lt_of_cell? W _ h0
      · have := hx i (by omega)
        rwa [Addr.add_lit] at this

/-- Tasks that came in, as the walks take them. -/
theorem open_tasksN {H : Type} {enc : TypeId × Value → H} {W : World} {fuel : Nat} {v : Value} {x : DataW H × List MemPlace} (h : DataW.trod enc Try.prog W 0 (fun _ => true) true fuel 22 [v] = some x) (hr : ∀ n ∈ x.1.weights Try.prog 22, n ≤ reachBytes) :
    ∃ (A : Option Addr) (n cap : Nat) (T : TD), v = .slice A n cap ∧ n ≤ 140737488351232 ∧ (1 ≤ n → ∃ b off, A = some ⟨b, off, none⟩ ∧ b < W.heap.size ∧ TasksAt W b off n T) := by
  obtain ⟨A, n, cap, T, rfl, hn, hst⟩ := open_tasks h hr
  rw [reach_eqN] at hn
  refine ⟨A, n, cap, T, rfl, by omega, fun h1 => ?_⟩
  obtain ⟨b, off, rfl, ht⟩ := hst h1
  refine ⟨b, off, rfl, World.block_lt_of_cell? W _ (ht 0 (by omega)).c0, fun i hi => ?_⟩
  have t := ht i hi
  have c1 := t.c1
  have c2 := t.c2
  have c3 := t.c3
  rw [Addr.add_lit] at c1 c2 c3
  have hl := t.len
  rw [reach_eqN] at hl
  refine ⟨t.c0, c1, c2, c3, by omega, fun h1 => ?_⟩
  obtain ⟨pb, po, e, hs⟩ := t.steps h1
  exact ⟨pb, po, e, World.block_lt_of_cell? W _ (hs 0 (by omega)).1, hs⟩

end Go.Proofs.Ytdabcflpcklfiaa
