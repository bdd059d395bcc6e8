import Derived.Test.YtdabcflpcklfiaaNd
import Derived.Test.YtdabcflpcklfiaaTh
/- The bounds that Analyze finds are bounds of the machine of numbers. -/
namespace Go.Proofs.Ytdabcflpcklfiaa
open Go.RowKit Cad

theorem ceilK_spec {K N : Nat → Int} {z : Int} {c : Nat → Int} : ∀ k, (∀ r, c r ≤ ceilK K N z c k r) ∧ (∀ q, q < k → K q = 2 → z ≤ ceilK K N z c k (N q).toNat) ∧ (∀ r, ceilK K N z c k r = c r ∨ (ceilK K N z c k r = z ∧ ∃ q, q < k ∧ K q = 2 ∧ (N q).toNat = r))
  | 0 => ⟨fun _ => Int.le_refl _, fun q hq => by omega, fun _ => .inl rfl⟩
  | k + 1 => by
    obtain ⟨i1, i2, i3⟩ := ceilK_spec (K := K) (N := N) (z := z) (c := c) k
    unfold ceilK
    by_cases h : K k = 2
    · rw [if_pos h]
      refine ⟨fun r => ?_, fun q hq h2 => ?_, fun r => ?_⟩
      · unfold upd
        split
        · rename_i e
          have := i1 r
          rw [e] at this
          rw [e]
          omega
        · exact i1 r
      · unfold upd
        split
        · omega
        · rename_i e
          by_cases g : q = k
          · subst g; exact absurd rfl e
          · exact i2 q (by omega) h2
      · unfold upd
        split
        · rename_i e
          rcases Int.le_total (ceilK K N z c k (N k).toNat) z with g | g
          · exact .inr ⟨by omega, k, by omega, h, e.symm⟩
          · rcases i3 r with g2 | ⟨g2, q, g3, g4, g5⟩
            · left; rw [← g2, e]; omega
            · right; exact ⟨by rw [e] at g2; omega, q, by omega, g4, g5⟩
        · rcases i3 r with g2 | ⟨g2, q, g3, g4, g5⟩
          · exact .inl g2
          · exact .inr ⟨g2, q, by omega, g4, g5⟩
    · rw [if_neg h]
      refine ⟨i1, fun q hq h2 => ?_, fun r => ?_⟩
      · by_cases g : q = k
        · subst g; exact absurd h2 h
        · exact i2 q (by omega) h2
      · rcases i3 r with g2 | ⟨g2, q, g3, g4, g5⟩
        · exact .inl g2
        · exact .inr ⟨g2, q, by omega, g4, g5⟩

theorem ceilI_spec {K N : Nat → Nat → Int} {L : Nat → Nat} {Z : Nat → Int} : ∀ n, (∀ t q, t < n → q < L t → K t q = 2 → Z t ≤ ceilI K N L Z n (N t q).toNat) ∧ (∀ r, ceilI K N L Z n r = 0 ∨ ∃ t q, t < n ∧ q < L t ∧ K t q = 2 ∧ (N t q).toNat = r ∧ ceilI K N L Z n r = Z t)
  | 0 => ⟨fun t q ht => by omega, fun _ => .inl rfl⟩
  | n + 1 => by
    obtain ⟨i1, i2⟩ := ceilI_spec (K := K) (N := N) (L := L) (Z := Z) n
    obtain ⟨k1, k2, k3⟩ := ceilK_spec (K := K n) (N := N n) (z := Z n) (c := ceilI K N L Z n) (L n)
    refine ⟨fun t q ht hq h2 => ?_, fun r => ?_⟩
    · by_cases e : t = n
      · subst e; exact k2 q hq h2
      · have h1 := i1 t q (by omega) hq h2
        have h3 := k1 (N t q).toNat
        show Z t ≤ ceilK (K n) (N n) (Z n) (ceilI K N L Z n) (L n) (N t q).toNat
        omega
    · rcases k3 r with g | ⟨g, q, g1, g2, g3⟩
      · rcases i2 r with e | ⟨t, q, e1, e2, e3, e4, e5⟩
        · exact .inl (g.trans e)
        · exact .inr ⟨t, q, by omega, e2, e3, e4, g.trans e5⟩
      · exact .inr ⟨n, q, by omega, g1, g2, g3, g⟩

theorem syok_of {T : TD} {Z : Nat → Int} {n : Nat} (hG : Good T n) (hp : PrioB Z n) : SyOk (sysOf T Z n) :=
  ⟨hG.prog, hp.2, fun t k ht hk h2 => (ceilI_spec n).1 t k ht hk h2⟩

theorem inter_alike {P J dm : Nat → Int} {h1 h2 : Nat → Bool} {w : Int} : ∀ m, (∀ j, j < m → h1 j = h2 j) → inter P J dm h1 w m = inter P J dm h2 w m
  | 0, _ => rfl
  | m + 1, h => by
    unfold inter
    rw [inter_alike m (fun j hj => h j (by omega)), h m (by omega)]

/-- What a bound above 0 is. -/
def BndOf (S : Sy) (R : Int) (D : Int) (i : Nat) (b : Int) : Prop :=
  IsMax (SCode S.K S.N S.L S.Z S.n i) b ∧ 1 ≤ R - S.J i ∧ R ≤ D ∧ dmS S i + b + inter S.P S.J (dmS S) (fun j => decide (S.Z i < S.Z j)) (R - S.J i) S.n = R - S.J i ∧
  ∀ u, 1 ≤ u → u < R - S.J i → dmS S i + b + inter S.P S.J (dmS S) (fun j => decide (S.Z i < S.Z j)) u S.n ≠ u

theorem bnd_of {T : TD} {Z : Nat → Int} {n i : Nat} {R : Int} (_hi : i < n) (hR : CodeB T Z n i R) (h0 : 0 < R) : ∃ b, BndOf (sysOf T Z n) R (T.D i) i b := by
  obtain ⟨s, hs, hb⟩ := hR
  have hm : IsMax (SCode T.K T.N T.L Z n i) s := BcTo.fin (fun a ha => by
    unfold withI abv
    by_cases e : a = i
    · rw [if_pos e]; simp [e]
    · rw [if_neg e, if_pos ha]; simp [e]) hs
  have hc : ∀ u, inter T.P T.J T.dm (abv Z n i) u n = inter T.P T.J T.dm (fun j => decide (Z i < Z j)) u n := fun u => inter_alike n (fun j hj => by unfold abv; rw [if_pos hj])
  rcases hb with ⟨w, h1, h2, h3, h4, h5⟩ | ⟨e, _⟩
  · have ew : R - T.J i = w := by omega
    refine ⟨s, hm, ?_, ?_, ?_, fun u hu1 hu2 => ?_⟩
    · show 1 ≤ R - T.J i; omega
    · omega
    · show T.dm i + s + inter T.P T.J T.dm (fun j => decide (Z i < Z j)) (R - T.J i) n = R - T.J i
      rw [← hc, ew]; exact h3
    · show T.dm i + s + inter T.P T.J T.dm (fun j => decide (Z i < Z j)) u n ≠ u
      rw [← hc]
      exact h4 u hu1 (by have : u < R - T.J i := hu2; omega)
  · omega

theorem bd_of {T : TD} {Z R : Nat → Int} {n : Nat} (hG : Good T n) (hp : PrioB Z n) (hR : ∀ i, i < n → CodeB T Z n i (R i)) (h0 : ∀ i, i < n → 0 < R i) :
    ∃ B, Bd (sysOf T Z n) (fun i => R i - T.J i) B ∧ ∀ i, i < n → BndOf (sysOf T Z n) (R i) (T.D i) i (B i) := by
  have hx : ∀ i, ∃ b, i < n → BndOf (sysOf T Z n) (R i) (T.D i) i b := fun i => by
    by_cases h : i < n
    · obtain ⟨b, hb⟩ := bnd_of h (hR i h) (h0 i h)
      exact ⟨b, fun _ => hb⟩
    · exact ⟨0, fun g => absurd g h⟩
  obtain ⟨B, hB⟩ := Classical.axiomOfChoice hx
  refine ⟨B, ⟨fun t ht => ?_, fun i hi => (hB i hi).2.1, fun i hi => Int.le_of_eq (hB i hi).2.2.2.1, fun i hi => ?_, fun i hi => (hB i hi).1.1, fun i a r k hi ha hr hz hc hk h2 hn => ?_⟩, hB⟩
  · have := hG.times t ht
    exact ⟨this.1, this.2.2.2.2.1⟩
  · have h1 := (hB i hi).2.2.1
    have h2 := hG.times i hi
    show R i - T.J i + T.J i ≤ T.P i
    omega
  · have hi' : i < n := hi
    have ha' : a < n := ha
    have hz' : Z a < Z i := hz
    have hza := hp.1 a ha'
    refine (hB i hi).1.2.2 _ ⟨a, (r : Int), ha, ?_, by omega, by omega, ?_, rfl⟩
    · rintro (g | g)
      · have g' : Z i < Z a := g
        omega
      · subst g; omega
    · have hc' : Z i ≤ ceilI T.K T.N T.L Z n r := hc
      rcases (ceilI_spec (K := T.K) (N := T.N) (L := T.L) (Z := Z) n).2 r with e | ⟨t, q, e1, e2, e3, e4, e5⟩
      · omega
      · refine ⟨t, e1, ?_, (lon_pos_iff (hG.prog t e1)).2 ⟨q, e2, e3, ?_⟩⟩
        · by_cases g : t = i
          · exact .inr g
          · left
            show Z i < Z t
            rcases Int.lt_or_le (Z i) (Z t) with g2 | g2
            · exact g2
            · exact absurd (hp.2 t i e1 hi' (by omega)) g
        · rcases (progB_inv (hG.prog t e1)).2.2.2.steps q e2 with g | g | g
          · omega
          · omega
          · omega

end Go.Proofs.Ytdabcflpcklfiaa
