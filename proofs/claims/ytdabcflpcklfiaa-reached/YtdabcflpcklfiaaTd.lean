import Derived.Test.YtdabcflpcklfiaaTc
/- Plain mathematics: what a level's busy time is made of. -/
namespace Go.Proofs.Ytdabcflpcklfiaa.Cad

/-! ### sections within sections -/

/-- As long as r is not unlocked, what was held when it was locked lies beneath it. -/
theorem st_above {K N : Nat → Int} {L k : Nat} {h : List Int} (hp : progB K N L = true) (hk : stTo K N k = some h) (h2 : K k = 2) : ∀ d, k + 1 + d ≤ L → (∀ t, k < t → t < k + 1 + d → ¬ (K t = 3 ∧ N t = N k)) → ∃ u, stTo K N (k + 1 + d) = some (h ++ [N k] ++ u)
  | 0, hl, _ => by
    obtain ⟨s, hs⟩ := st_some hp (show k + 1 ≤ L by omega)
    have hs2 := hs
    simp only [stTo, hk, Option.bind_some] at hs
    unfold stepF at hs
    rw [if_neg (by omega), if_pos h2] at hs
    split at hs
    · cases hs
      exact ⟨[], by rw [Nat.add_zero, hs2]; simp⟩
    · cases hs
  | d + 1, hl, hn => by
    obtain ⟨u, hu⟩ := st_above hp hk h2 d (by omega) (fun t a b => hn t a (by omega))
    obtain ⟨s, hs⟩ := st_some hp (show k + 1 + (d + 1) ≤ L by omega)
    have hs2 := hs
    rw [show k + 1 + (d + 1) = (k + 1 + d) + 1 from by omega] at hs
    simp only [stTo, hu, Option.bind_some] at hs
    rw [hs2]
    unfold stepF at hs
    split at hs
    · split at hs
      · cases hs; exact ⟨u, rfl⟩
      · cases hs
    · split at hs
      · split at hs
        · cases hs
          exact ⟨u ++ [N (k + 1 + d)], by simp⟩
        · cases hs
      · split at hs
        · rename_i h3
          split at hs
          · rename_i c
            cases hs
            cases hu' : u with
            | nil =>
              exfalso
              rw [hu'] at c
              have : N k = N (k + 1 + d) := by simpa using c.2
              exact hn (k + 1 + d) (by omega) (by omega) ⟨h3, this.symm⟩
            | cons x y =>
              refine ⟨(x :: y).dropLast, ?_⟩
              congr 1
              rw [List.dropLast_append_of_ne_nil (by simp)]
          · cases hs
        · cases hs

theorem nest {K N : Nat → Int} {L k e k' e' : Nat} {r r' : Int} (hp : progB K N L = true) (hc : Closed K N r k e L) (hc' : Closed K N r' k' e' L) (h1 : k < k') (h2 : k' < e) : e' ≤ e := by
  rcases Nat.lt_or_ge e e' with g | g
  · exfalso
    obtain ⟨a1, a2, a3, a4, a5, a6, a7⟩ := hc
    obtain ⟨b1, b2, b3, b4, b5, b6, b7⟩ := hc'
    obtain ⟨s, hs⟩ := st_some hp (show k ≤ L by omega)
    obtain ⟨u, hu⟩ := st_above hp hs a3 (k' - (k + 1)) (by omega) (fun t x y => by rw [a4]; exact a7 t x (by omega))
    rw [show k + 1 + (k' - (k + 1)) = k' from by omega] at hu
    obtain ⟨v, hv⟩ := st_above hp hu b3 (e - (k' + 1)) (by omega) (fun t x y => by rw [b4]; exact b7 t x (by omega))
    rw [show k' + 1 + (e - (k' + 1)) = e from by omega] at hv
    obtain ⟨z, hz⟩ := st_some hp (show e + 1 ≤ L by omega)
    simp only [stTo, hv, Option.bind_some] at hz
    unfold stepF at hz
    rw [if_neg (by omega), if_neg (by omega), if_pos a5] at hz
    split at hz
    · rename_i c
      have hnd := (prog_inv K N e _ hv).nodup
      have hl : (s ++ [N k] ++ u ++ [N k'] ++ v).getLast? = some (N e) := c.2
      have hmem : N e ∈ ([N k'] ++ v) := by
        have e1 : s ++ [N k] ++ u ++ [N k'] ++ v = (s ++ [N k] ++ u) ++ ([N k'] ++ v) := by simp
        rw [e1, List.getLast?_append] at hl
        cases hq : ([N k'] ++ v).getLast? with
        | none => simp at hq
        | some q =>
          rw [hq] at hl
          have hqe : q = N e := by simpa using hl
          rw [← hqe]
          exact List.mem_of_getLast? hq
      have hke : N k = N e := by rw [a4, a6]
      rw [← hke] at hmem
      have e2 : s ++ [N k] ++ u ++ [N k'] ++ v = (s ++ [N k]) ++ (u ++ ([N k'] ++ v)) := by simp
      rw [e2] at hnd
      have hdis := (List.nodup_append.1 hnd).2.2
      exact hdis (N k) (by simp) (N k) (by simp only [List.mem_append]; exact .inr (List.mem_append.1 hmem)) rfl
    · cases hz
  · exact g

/-! ### what is left -/

theorem dem_le {K N N' : Nat → Int} {a : Nat} : ∀ d, (∀ i, a ≤ i → i < a + d → K i = 1 → N' i ≤ N i) → demTo K N' (a + d) - demTo K N' a ≤ demTo K N (a + d) - demTo K N a
  | 0, _ => by simp
  | d + 1, h => by
    have ih := dem_le (K := K) (N := N) (N' := N') d (fun i h1 h2 => h i h1 (by omega))
    rw [← Nat.add_assoc, demTo, demTo]
    by_cases e : K (a + d) = 1
    · have := h (a + d) (by omega) (by omega) e
      rw [if_pos e, if_pos e]
      omega
    · rw [if_neg e, if_neg e]
      omega

theorem left_pos {K : Nat → Int} {L : Nat} {j : Jb} (h : JbOk K L j) : 1 ≤ j.left := by
  have h1 := h.lt
  obtain ⟨d, hd⟩ : ∃ d, L = j.p + d + 1 := ⟨L - j.p - 1, by omega⟩
  have h2 := (dem_diff (K := K) (N := j.N) (a := j.p) d (fun i a b => h.comp i a (by omega))).1
  have h3 : demTo K j.N L = demTo K j.N (j.p + d) + j.N (j.p + d) := by
    rw [hd, demTo]
    have : K (j.p + d) = 1 := by have := h.last; rw [hd] at this; simpa using this
    rw [if_pos this]
  have h4 : K (j.p + d) = 1 := by have := h.last; rw [hd] at this; simpa using this
  have h5 := h.comp (j.p + d) (by omega) (by omega) h4
  rw [h.left, h3]
  omega

theorem left_le {S : Sy} {t : Nat} {j : Jb} (hp : progB (S.K t) (S.N t) (S.L t) = true) (h : JbOk (S.K t) (S.L t) j) (hn : ∀ k, k < S.L t → S.K t k = 1 → j.N k ≤ S.N t k) : j.left ≤ demTo (S.K t) (S.N t) (S.L t) := by
  obtain ⟨d, hd⟩ : ∃ d, S.L t = j.p + d := ⟨S.L t - j.p, by have := h.lt; omega⟩
  have h1 := dem_le (K := S.K t) (N := S.N t) (N' := j.N) (a := j.p) d (fun i _ b => hn i (by omega))
  have h2 := demTo_mono (progB_inv hp).2.2.2.steps 0 j.p (by omega) (by have := h.lt; omega)
  have h0 : demTo (S.K t) (S.N t) 0 = 0 := rfl
  rw [h.left, hd]
  omega

/-- What is left of a section is no more than its length. -/
theorem rem_le {S : Sy} {t r k e : Nat} {j : Jb} (hp : progB (S.K t) (S.N t) (S.L t) = true) (hn : ∀ k, k < S.L t → S.K t k = 1 → j.N k ≤ S.N t k) (hc : Closed (S.K t) (S.N t) (r : Int) k e (S.L t)) (hk : k < j.p) (he : j.p ≤ e) :
    demTo (S.K t) j.N e - demTo (S.K t) j.N j.p ≤ lonTo (S.K t) (S.N t) (r : Int) (S.L t) := by
  obtain ⟨_, _, _, I⟩ := progB_inv hp
  obtain ⟨d, hd⟩ : ∃ d, e = j.p + d := ⟨e - j.p, by omega⟩
  have hel := hc.2.1
  have h1 := dem_le (K := S.K t) (N := S.N t) (N' := j.N) (a := j.p) d (fun i _ b => hn i (by omega))
  have h2 := demTo_mono I.steps k j.p (by omega) (by omega)
  rcases I.locks (r : Int) k (by omega) hc.2.2.1 hc.2.2.2.1 with ⟨e2, hc2, hle⟩ | ⟨hr, _⟩
  · have : e2 = e := by
      rcases Nat.lt_trichotomy e2 e with g | g | g
      · exact absurd ⟨hc2.2.2.2.2.1, hc2.2.2.2.2.2.1⟩ (hc.2.2.2.2.2.2 e2 hc2.1 g)
      · exact g
      · exact absurd ⟨hc.2.2.2.2.1, hc.2.2.2.2.2.1⟩ (hc2.2.2.2.2.2.2 e hc.1 g)
    subst this
    rw [← hd] at h1
    omega
  · cases hr

/-! ### sums -/

def sumTo (f : Nat → Int) : Nat → Int
  | 0 => 0
  | k + 1 => sumTo f k + f k

theorem sumTo_le {f g : Nat → Int} : ∀ n, (∀ j, j < n → f j ≤ g j) → sumTo f n ≤ sumTo g n
  | 0, _ => Int.le_refl _
  | n + 1, h => by
    have := sumTo_le n (fun j hj => h j (by omega))
    have := h n (by omega)
    unfold sumTo
    omega

theorem sumTo_bump {f g : Nat → Int} {t : Nat} : ∀ n, t < n → (∀ j, j < n → j ≠ t → g j = f j) → g t = f t + 1 → sumTo g n = sumTo f n + 1
  | 0, h, _, _ => by omega
  | n + 1, h, ho, ht => by
    unfold sumTo
    by_cases e : t = n
    · subst e
      have : sumTo g t = sumTo f t := by
        have : ∀ m, m ≤ t → sumTo g m = sumTo f m := by
          intro m
          induction m with
          | zero => intro _; rfl
          | succ m ih => intro hm; unfold sumTo; rw [ih (by omega), ho m (by omega) (by omega)]
        exact this t (Nat.le_refl _)
      omega
    · rw [sumTo_bump n (by omega) (fun j hj hne => ho j (by omega) hne) ht, ho n (by omega) (fun g => e g.symm)]
      omega

theorem sumTo_same {f g : Nat → Int} : ∀ n, (∀ j, j < n → g j = f j) → sumTo g n = sumTo f n
  | 0, _ => rfl
  | n + 1, h => by
    unfold sumTo
    rw [sumTo_same n (fun j hj => h j (by omega)), h n (by omega)]

theorem sumTo_zero : ∀ n, sumTo (fun _ => 0) n = 0
  | 0 => rfl
  | n + 1 => by unfold sumTo; rw [sumTo_zero n]; rfl

/-- The sum over a level, against the interference and the task's own. -/
theorem level_sum {P J dm : Nat → Int} {Z : Nat → Int} {i : Nat} {w : Int} {f : Nat → Int} {own : Int} : ∀ n, (∀ j, j < n → Z i < Z j → f j ≤ ceilD (w + J j) (P j) * dm j) → (∀ j, j < n → j ≠ i → ¬ Z i < Z j → f j = 0) → (i < n → f i ≤ own) → 0 ≤ own →
    sumTo f n ≤ inter P J dm (fun j => decide (Z i < Z j)) w n + (if i < n then own else 0)
  | 0, _, _, _, _ => by simp [sumTo, inter]
  | n + 1, h1, h2, h3, h0 => by
    have ih := level_sum (P := P) (J := J) (dm := dm) (w := w) n (fun j hj => h1 j (by omega)) (fun j hj => h2 j (by omega)) (fun h => h3 (by omega)) h0
    unfold sumTo inter
    by_cases e : i = n
    · subst e
      rw [if_neg (Nat.lt_irrefl _)] at ih
      rw [if_pos (Nat.lt_succ_self _)]
      have := h3 (by omega)
      have hno : ¬ (decide (Z i < Z i) = true) := by simp
      rw [if_neg hno]
      omega
    · by_cases c : Z i < Z n
      · have := h1 n (by omega) c
        have hyes : decide (Z i < Z n) = true := by simpa using c
        rw [if_pos hyes]
        by_cases g : i < n
        · rw [if_pos g] at ih; rw [if_pos (by omega)]; omega
        · rw [if_neg g] at ih; rw [if_neg (by omega)]; omega
      · have := h2 n (by omega) (fun g => e g.symm) c
        have hno : ¬ (decide (Z i < Z n) = true) := by simpa using c
        rw [if_neg hno]
        by_cases g : i < n
        · rw [if_pos g] at ih; rw [if_pos (by omega)]; omega
        · rw [if_neg g] at ih; rw [if_neg (by omega)]; omega

/-- How many can have begun. -/
theorem count_le {N P J w : Int} (hP : 1 ≤ P) (h : N * P ≤ w - 1 + P + J) : N ≤ ceilD (w + J) P := by
  unfold ceilD
  exact Int.le_ediv_of_mul_le (by omega) (by omega)

end Go.Proofs.Ytdabcflpcklfiaa.Cad
