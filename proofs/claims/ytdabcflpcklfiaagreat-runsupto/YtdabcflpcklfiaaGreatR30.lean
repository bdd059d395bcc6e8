import Derived.Test.YtdabcflpcklfiaaGreatR29
import Derived.Laws.IdiomCopy
import Derived.Laws.Append
import Derived.Test.YtdabcflpcklfiaaGreatR28
/- A resource's ceiling, as the law finds it; since when a section is held. -/
namespace Go.Proofs.YtdabcflpcklfiaaGreat
open Go.RowKit Cad

theorem ceil_eq {T : TD} {Z : Nat → Int} {n : Nat} {r c : Int} (h : IsCeil T.K T.N T.L Z n r c) (hl : ∃ t, t < n ∧ Locks (T.K t) (T.N t) (T.L t) r) (hz : ∀ t, t < n → 0 ≤ Z t) (hr : 0 ≤ r) (hv : ∀ t, t < n → ∀ k, k < T.L t → T.K t k = 2 → 0 ≤ T.N t k) : c = (sysOf T Z n).C r.toNat := by
  obtain ⟨h1, h2⟩ := h
  obtain ⟨i1, i2⟩ := ceilI_spec (K := T.K) (N := T.N) (L := T.L) (Z := Z) n
  show c = ceilI T.K T.N T.L Z n r.toNat
  obtain ⟨t0, ht0, k0, hk0, e0, en0⟩ := hl
  have a1 := i1 t0 k0 ht0 hk0 e0
  rw [en0] at a1
  have a2 := h2 t0 ht0 ⟨k0, hk0, e0, en0⟩
  have a3 := hz t0 ht0
  have up : c ≤ ceilI T.K T.N T.L Z n r.toNat := by
    rcases h1 with g | ⟨t, ht, ⟨k, hk, e, en⟩, g⟩
    · omega
    · have := i1 t k ht hk e
      rw [en] at this
      omega
  rcases i2 r.toNat with g | ⟨t, q, ht, hq, e, en, g⟩
  · omega
  · have hN := hv t ht q hq e
    have := h2 t ht ⟨q, hq, e, by omega⟩
    omega

end Go.Proofs.YtdabcflpcklfiaaGreat
