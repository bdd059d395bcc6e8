import Derived.Test.YtdabcflpcklfiaaGreatA29
import Derived.Laws.IdiomCopy
import Derived.Laws.Append
import Derived.Test.YtdabcflpcklfiaaGreatA28
import Derived.Test.YtdabcflpcklfiaaGreatA27
/- A resource's ceiling, as the law finds it; since when a section is held. -/
namespace Go.Proofs.YtdabcflpcklfiaaGreat
open Go.RowKit Cad

theorem ceil_eq {T : TD} {Z : Nat → Int} {n : Nat} {r c : Int} (h : IsCeil T.K T.N T.L Z n r c) (hl : ∃ t, t < n ∧ Locks (T.K t) (T.N t) (T.L t) r) (hz : ∀ t, t < n → 0 ≤ Z t) (hr : 0 ≤ r) (hv : ∀ t, t < n → ∀ k, k < T.L t → T.K t k = 2 → 0 ≤ T.N t k) : c = (sysOf T Z n).C r.toNat := by
  obtain ⟨h1, h2⟩ := h
  obtain ⟨i1, i2⟩ := ceilI_spec (K := T.K) (N := T.N) (L := T.L) (Z := Z) n
  show c = ceilI T.K T.N T.L Z n r.toNat
  obtain ⟨t0, ht0, k0, hk0, e0, en0⟩ := hl
  have a1 := i1 t0 k0 ht0 hk0 e0
  rw [en0] at a1
  have a2 := h2 t0 ht0 ⟨k0, hk0, e0, en0⟩
  have a3 := hz t0 ht0
  have up : c ≤ ceilI T.K T.N T.L Z n r.toNat := by
    rcases h1 with g | ⟨t, ht, ⟨k, hk, e, en⟩, g⟩
    · omega
    · have := i1 t k ht hk e
      rw [en] at this
      omega
  rcases i2 r.toNat with g | ⟨t, q, ht, hq, e, en, g⟩
  · omega
  · have hN := hv t ht q hq e
    have := h2 t ht ⟨q, hq, e, by omega⟩
    omega

end Go.Proofs.YtdabcflpcklfiaaGreat

/- What a tick of the law writes. -/
namespace Go.Proofs.YtdabcflpcklfiaaGreat
open Go.RowKit Cad

end Go.Proofs.YtdabcflpcklfiaaGreat

/- The law's watch beside the kernel; what its tick needs. -/
namespace Go.Proofs.YtdabcflpcklfiaaGreat
open Go.RowKit Cad

theorem st_len {K N : Nat → Int} : ∀ (p : Nat) {h : List Int}, stTo K N p = some h → h.length ≤ p
  | 0, h, e => by cases e; simp
  | p + 1, h, e => by
    have e' : (stTo K N p).bind _ = some h := e
    cases hq : stTo K N p with
    | none => rw [hq] at e'; cases e'
    | some g =>
      rw [hq] at e'
      have ih := st_len p hq
      have e2 : Cad.stepF g (prevLock K p) (K p) (N p) = some h := e'
      unfold Cad.stepF at e2
      split at e2
      · split at e2
        · cases e2; omega
        · cases e2
      · split at e2
        · split at e2
          · cases e2; rw [List.length_append]; simp; omega
          · cases e2
        · split at e2
          · split at e2
            · cases e2; rw [List.length_dropLast]; omega
            · cases e2
          · cases e2

theorem st_mem {K N : Nat → Int} {r : Int} : ∀ (p : Nat) {h : List Int}, stTo K N p = some h → r ∈ h → ∃ k, k < p ∧ K k = 2 ∧ N k = r
  | 0, h, e, hr => by cases e; simp at hr
  | p + 1, h, e, hr => by
    have e' : (stTo K N p).bind _ = some h := e
    cases hq : stTo K N p with
    | none => rw [hq] at e'; cases e'
    | some g =>
      rw [hq] at e'
      have ih := st_mem (r := r) p hq
      have old : r ∈ g → ∃ k, k < p + 1 ∧ K k = 2 ∧ N k = r := fun hm => by
        obtain ⟨k, h1, h2, h3⟩ := ih hm
        exact ⟨k, by omega, h2, h3⟩
      have e2 : Cad.stepF g (prevLock K p) (K p) (N p) = some h := e'
      unfold Cad.stepF at e2
      split at e2
      · split at e2
        · cases e2; exact old hr
        · cases e2
      · split at e2
        · rename_i hk2
          split at e2
          · cases e2
            rcases List.mem_append.1 hr with g1 | g1
            · exact old g1
            · exact ⟨p, by omega, hk2, (List.mem_singleton.1 g1).symm⟩
          · cases e2
        · split at e2
          · split at e2
            · cases e2; exact old (List.dropLast_subset _ hr)
            · cases e2
          · cases e2

theorem bel_drew (w : World) : Below w.heap.size w w.drew := ⟨rfl, rfl, rfl, Nat.le_refl _, fun _ _ => rfl⟩

end Go.Proofs.YtdabcflpcklfiaaGreat

/- A run is added to the law's watch. -/
namespace Go.Proofs.YtdabcflpcklfiaaGreat
open Go.RowKit Cad

theorem sumL_range {l : List Int} (h : ∀ i, i < l.length → 1 ≤ l.getD i 0 ∧ l.getD i 0 ≤ 100) : ∀ i, i ≤ l.length → 0 ≤ sumL (l.take i) ∧ sumL (l.take i) ≤ 100 * (i : Int)
  | 0, _ => by simp [sumL]
  | i + 1, hi => by
    have ih := sumL_range h i (by omega)
    have hl := h i (by omega)
    rw [sumL_snoc l i (by omega)]
    omega

end Go.Proofs.YtdabcflpcklfiaaGreat

/- The law's watched, walked. -/
namespace Go.Proofs.YtdabcflpcklfiaaGreat
open Go.RowKit Cad

end Go.Proofs.YtdabcflpcklfiaaGreat
