import Derived.Test.YtdabcflpcklfiaaPa
/- A task that moves up loses at least as much as it gains: the lowest priority may go to any task that gets a bound with it. -/
namespace Go.Proofs.Ytdabcflpcklfiaa
open Go.RowKit

theorem lon_le_dem {T : TD} {n k q : Nat} (hG : Good T n) (hk : k < n) : 0 ≤ T.lon k q ∧ T.lon k q ≤ T.dm k := by
  have hp := hG.prog k hk
  obtain ⟨_, _, _, I⟩ := Cad.progB_inv hp
  refine ⟨I.lon0 q, ?_⟩
  show Cad.lonTo (T.K k) (T.N k) (q : Int) (T.L k) ≤ Cad.demTo (T.K k) (T.N k) (T.L k)
  rcases I.best (q : Int) with h0 | ⟨a, e, hc, he⟩
  · have := (Cad.dem_pos hp).1
    omega
  · have h1 := Cad.demTo_mono I.steps e (T.L k) (by have := hc.2.1; omega) (Nat.le_refl _)
    have h2 := Cad.demTo_mono I.steps 0 a (by omega) (by have := hc.1; have := hc.2.1; omega)
    have h0 : Cad.demTo (T.K k) (T.N k) 0 = 0 := rfl
    omega

theorem inter_drop_ge {T : TD} {H : Nat → Bool} {k : Nat} {u : Int} : ∀ m, m ≤ k → Cad.inter T.P T.J T.dm (dropI H k) u m = Cad.inter T.P T.J T.dm H u m
  | 0, _ => rfl
  | m + 1, h => by
    simp only [Cad.inter]
    rw [inter_drop_ge m (by omega), dropI_ne (by omega)]

theorem ceil_one {u J P : Int} (hu : 1 ≤ u) (hJ : 0 ≤ J) (hP : 1 ≤ P) : 1 ≤ Cad.ceilD (u + J) P := by
  unfold Cad.ceilD
  have : P ≤ u + J + P - 1 := by omega
  exact (Int.le_ediv_iff_mul_le (by omega)).2 (by omega)

theorem inter_drop {T : TD} {H : Nat → Bool} {n k : Nat} {u : Int} (hG : Good T n) (hk : H k = true) (hu : 1 ≤ u) : ∀ m, k < m → m ≤ n → Cad.inter T.P T.J T.dm (dropI H k) u m + T.dm k ≤ Cad.inter T.P T.J T.dm H u m
  | 0, h, _ => by omega
  | m + 1, h, hm => by
    simp only [Cad.inter]
    by_cases e : m = k
    · subst e
      rw [inter_drop_ge m (Nat.le_refl _), dropI_self, if_pos hk, if_neg (by simp)]
      obtain ⟨p1, _, _, _, j0, _⟩ := hG.times m (by omega)
      have hd := (Cad.dem_pos (hG.prog m (by omega))).1
      have hc := ceil_one hu j0 p1
      have hd' : 1 ≤ T.dm m := hd
      have := Int.mul_le_mul_of_nonneg_right hc (show 0 ≤ T.dm m by omega)
      omega
    · have := inter_drop hG hk hu m (by omega) (by omega)
      rw [dropI_ne e]
      omega

/-- The least number that fits, below one that is enough. -/
theorem least_fit {f : Int → Int} {w : Int} (hm : ∀ a b, a ≤ b → f a ≤ f b) (h1 : ∀ u, 1 ≤ u → 1 ≤ f u) (hw : 1 ≤ w) (hf : f w ≤ w) : ∃ v, 1 ≤ v ∧ v ≤ w ∧ f v = v ∧ ∀ u, 1 ≤ u → u < v → f u ≠ u := by
  have main : ∀ d : Nat, ∀ w : Int, w = d + 1 → f w ≤ w → ∃ v, 1 ≤ v ∧ v ≤ w ∧ f v = v ∧ ∀ u, 1 ≤ u → u < v → f u ≠ u := by
    intro d
    induction d using Nat.strongRecOn with
    | ind d ih =>
      intro w hd hf
      by_cases hx : ∃ u, 1 ≤ u ∧ u < w ∧ f u ≤ u
      · obtain ⟨u, h1u, huw, hfu⟩ := hx
        obtain ⟨v, a, b, c, e⟩ := ih (u - 1).toNat (by omega) u (by omega) hfu
        exact ⟨v, a, by omega, c, e⟩
      · have hfw : f w = w := by
          rcases Int.lt_or_le (f w) w with g | g
          · exact absurd ⟨f w, h1 w (by omega), g, hm _ _ (by omega)⟩ hx
          · omega
        exact ⟨w, by omega, Int.le_refl _, hfw, fun u a b c => hx ⟨u, a, b, by omega⟩⟩
  exact main (w - 1).toNat w (by omega) hf

/-- The greatest length that there is. -/
theorem bc_ex (T : TD) (Rs : Nat → Bool) (n : Nat) : ∃ s, BcTo T Rs n n 0 s := by
  classical
  have key : ∀ j, j ≤ n → ∃ b, BcTo T Rs n j 0 b := by
    intro j
    induction j with
    | zero => intro _; exact ⟨0, BcTo.start⟩
    | succ j ih =>
      intro hj
      obtain ⟨b, hb⟩ := ih (by omega)
      by_cases hR : Rs j = true
      · exact ⟨b, BcTo.next hb (.inr ⟨rfl, hR⟩)⟩
      · have hR' : Rs j = false := by simpa using hR
        have inner : ∀ r, r ≤ 8 → ∃ c, BcTo T Rs n j r c := by
          intro r
          induction r with
          | zero => intro _; exact ⟨b, hb⟩
          | succ r ihr =>
            intro hr
            obtain ⟨c, hc⟩ := ihr (by omega)
            by_cases hl : LockedBy T Rs r n
            · exact ⟨_, BcTo.take hc hR' hl⟩
            · exact ⟨c, BcTo.skip hc hl⟩
        obtain ⟨c, hc⟩ := inner 8 (Nat.le_refl _)
        exact ⟨c, BcTo.next hc (.inl rfl)⟩
  exact key n (Nat.le_refl _)

/-- A task whose set loses one of the higher ones keeps its bound. -/
theorem has_drop {T : TD} {n i k : Nat} {H : Nat → Bool} (hG : Good T n) (hi : i < n) (hk : k < n) (hik : k ≠ i) (hH : H k = true) (h : Has T n H i) : Has T n (dropI H k) i := by
  obtain ⟨r, ⟨s, hs, hb⟩, h0⟩ := h
  rcases hb with ⟨w, w1, wd, wf, _, rfl⟩ | ⟨rfl, _⟩
  · obtain ⟨s', hs'⟩ := bc_ex T (withI (dropI H k) i) n
    have hss : s' ≤ s + T.dm k := by
      have hd := (Cad.dem_pos (hG.prog k hk)).1
      have hd' : 1 ≤ T.dm k := hd
      rcases hs'.2.1 with g | ⟨a, q, haq, hRa, ⟨t, htn, htR, htl⟩, g⟩
      · have := hs.1; omega
      · by_cases ea : a = k
        · subst ea
          have := (lon_le_dem (q := q) hG hk).2
          have := hs.1
          omega
        · have hRa' : withI H i a = false := by
            unfold withI at hRa ⊢
            by_cases e : a = i
            · rw [if_pos e] at hRa; cases hRa
            · rw [if_neg e] at hRa ⊢
              rw [dropI_ne ea] at hRa
              exact hRa
          have htR' : withI H i t = true := by
            unfold withI at htR ⊢
            by_cases e : t = i
            · rw [if_pos e]
            · rw [if_neg e] at htR ⊢
              exact (dropI_le htR).1
          have := hs.2.2 s' ⟨a, q, haq, hRa', ⟨t, htn, htR', htl⟩, g⟩
          omega
    have hdm := (Cad.dem_pos (hG.prog i hi)).1
    have hdm' : 1 ≤ T.dm i := hdm
    have hs0 := hs'.1
    have hmono : ∀ a b : Int, a ≤ b → T.dm i + s' + Cad.inter T.P T.J T.dm (dropI H k) a n ≤ T.dm i + s' + Cad.inter T.P T.J T.dm (dropI H k) b n := fun a b hab => by
      have := Cad.inter_mono (hi := dropI H k) hG.timesOk hab n (Nat.le_refl _)
      omega
    have h1 : ∀ u : Int, 1 ≤ u → 1 ≤ T.dm i + s' + Cad.inter T.P T.J T.dm (dropI H k) u n := fun u hu => by
      have h0 : Cad.inter T.P T.J T.dm (dropI H k) 0 n ≤ Cad.inter T.P T.J T.dm (dropI H k) u n := Cad.inter_mono (hi := dropI H k) hG.timesOk (by omega) n (Nat.le_refl _)
      have := (Cad.inter_bound (hi := dropI H k) hG.timesOk (w := 0) (by omega) (by omega) n (Nat.le_refl _)).1
      omega
    have hle : T.dm i + s' + Cad.inter T.P T.J T.dm (dropI H k) w n ≤ w := by
      have := inter_drop hG hH w1 n hk (Nat.le_refl _)
      have e : T.dm i + s + Cad.inter T.P T.J T.dm H w n = w := wf
      omega
    obtain ⟨v, v1, vw, vf, vl⟩ := least_fit hmono h1 w1 hle
    have hj := (hG.times i hi).2.2.2.2.1
    exact ⟨v + T.J i, ⟨s', hs', .inl ⟨v, v1, by omega, vf, vl, rfl⟩⟩, by omega⟩
  · omega

/-- The lowest priority may go to any task that gets a bound with it. -/
theorem poss_drop {T : TD} {n : Nat} (hG : Good T n) {H : Nat → Bool} (h : Poss T n H) : ∀ i, i < n → H i = true → Has T n (dropI H i) i → Poss T n (dropI H i) := by
  have key : Poss T n H ∧ (∀ i, i < n → H i = true → Has T n (dropI H i) i → Poss T n (dropI H i)) := by
   refine h (fun H => Poss T n H ∧ (∀ i, i < n → H i = true → Has T n (dropI H i) i → Poss T n (dropI H i))) ?_ ?_
   · intro H h
     refine ⟨Poss.nobody h, ?_⟩
     intro i hi hH; rw [h i hi] at hH; cases hH
   · intro H k hk hHk hbk hpi
     obtain ⟨hp, ih⟩ := hpi
     refine ⟨Poss.low k hk hHk hbk hp, ?_⟩
     intro i hi hH hb
     by_cases e : i = k
     · subst e; exact hp
     · have hHi : dropI H k i = true := by rw [dropI_ne e]; exact hH
       have hHk' : dropI H i k = true := by rw [dropI_ne (fun g => e g.symm)]; exact hHk
       have hb' : Has T n (dropI (dropI H k) i) i := by
         rw [dropI_comm]
         exact has_drop hG hi hk (fun g => e g.symm) hHk' hb
       have h1 := ih i hi hHi hb'
       refine Poss.low k hk hHk' ?_ ?_
       · rw [dropI_comm]
         exact has_drop hG hk hi e hHi hbk
       · rw [dropI_comm]
         exact h1
  exact key.2

/-- So the task that gets the lowest priority is just the one with the greatest number of those that get a bound with it. -/
theorem low_of {T : TD} {n i : Nat} (hG : Good T n) {H : Nat → Bool} (h : Poss T n H) (hi : i < n) (hH : H i = true) (hb : Has T n (dropI H i) i) (hmax : ∀ j, i < j → j < n → H j = true → ¬ Has T n (dropI H j) j) : Low T n H i :=
  ⟨hi, hH, hb, poss_drop hG h i hi hH hb, fun j h1 h2 h3 h4 => absurd h4 (hmax j h1 h2 h3)⟩

theorem low_max {T : TD} {n i : Nat} (hG : Good T n) {H : Nat → Bool} (h : Low T n H i) : ∀ j, i < j → j < n → H j = true → ¬ Has T n (dropI H j) j :=
  fun j h1 h2 h3 h4 => h.2.2.2.2 j h1 h2 h3 h4 (poss_drop hG h.poss j h2 h3 h4)

end Go.Proofs.Ytdabcflpcklfiaa
