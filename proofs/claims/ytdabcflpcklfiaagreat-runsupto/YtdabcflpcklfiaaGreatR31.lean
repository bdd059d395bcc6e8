import Derived.Test.YtdabcflpcklfiaaGreatR30
import Derived.Test.YtdabcflpcklfiaaGreatR28
import Derived.Test.YtdabcflpcklfiaaGreatR27
/- What a tick of the law writes. -/
namespace Go.Proofs.YtdabcflpcklfiaaGreat
open Go.RowKit Cad

end Go.Proofs.YtdabcflpcklfiaaGreat

/- The law's watch beside the kernel; what its tick needs. -/
namespace Go.Proofs.YtdabcflpcklfiaaGreat
open Go.RowKit Cad

theorem st_len {K N : Nat → Int} : ∀ (p : Nat) {h : List Int}, stTo K N p = some h → h.length ≤ p
  | 0, h, e => by cases e; simp
  | p + 1, h, e => by
    have e' : (stTo K N p).bind _ = some h := e
    cases hq : stTo K N p with
    | none => rw [hq] at e'; cases e'
    | some g =>
      rw [hq] at e'
      have ih := st_len p hq
      have e2 : Cad.stepF g (prevLock K p) (K p) (N p) = some h := e'
      unfold Cad.stepF at e2
      split at e2
      · split at e2
        · cases e2; omega
        · cases e2
      · split at e2
        · split at e2
          · cases e2; rw [List.length_append]; simp; omega
          · cases e2
        · split at e2
          · split at e2
            · cases e2; rw [List.length_dropLast]; omega
            · cases e2
          · cases e2

theorem st_mem {K N : Nat → Int} {r : Int} : ∀ (p : Nat) {h : List Int}, stTo K N p = some h → r ∈ h → ∃ k, k < p ∧ K k = 2 ∧ N k = r
  | 0, h, e, hr => by cases e; simp at hr
  | p + 1, h, e, hr => by
    have e' : (stTo K N p).bind _ = some h := e
    cases hq : stTo K N p with
    | none => rw [hq] at e'; cases e'
    | some g =>
      rw [hq] at e'
      have ih := st_mem (r := r) p hq
      have old : r ∈ g → ∃ k, k < p + 1 ∧ K k = 2 ∧ N k = r := fun hm => by
        obtain ⟨k, h1, h2, h3⟩ := ih hm
        exact ⟨k, by omega, h2, h3⟩
      have e2 : Cad.stepF g (prevLock K p) (K p) (N p) = some h := e'
      unfold Cad.stepF at e2
      split at e2
      · split at e2
        · cases e2; exact old hr
        · cases e2
      · split at e2
        · rename_i hk2
          split at e2
          · cases e2
            rcases List.mem_append.1 hr with g1 | g1
            · exact old g1
            · exact ⟨p, by omega, hk2, (List.mem_singleton.1 g1).symm⟩
          · cases e2
        · split at e2
          · split at e2
            · cases e2; exact old (List.dropLast_subset _ hr)
            · cases e2
          · cases e2

theorem bel_drew (w : World) : Below w.heap.size w w.drew := ⟨rfl, rfl, rfl, Nat.le_refl _, fun _ _ => rfl⟩

end Go.Proofs.YtdabcflpcklfiaaGreat

/- A run is added to the law's watch. -/
namespace Go.Proofs.YtdabcflpcklfiaaGreat
open Go.RowKit Cad

theorem sumL_range {l : List Int} (h : ∀ i, i < l.length → 1 ≤ l.getD i 0 ∧ l.getD i 0 ≤ 100) : ∀ i, i ≤ l.length → 0 ≤ sumL (l.take i) ∧ sumL (l.take i) ≤ 100 * (i : Int)
  | 0, _ => by simp [sumL]
  | i + 1, hi => by
    have ih := sumL_range h i (by omega)
    have hl := h i (by omega)
    rw [sumL_snoc l i (by omega)]
    omega

end Go.Proofs.YtdabcflpcklfiaaGreat

/- The law's watched, walked. -/
namespace Go.Proofs.YtdabcflpcklfiaaGreat
open Go.RowKit Cad

end Go.Proofs.YtdabcflpcklfiaaGreat
