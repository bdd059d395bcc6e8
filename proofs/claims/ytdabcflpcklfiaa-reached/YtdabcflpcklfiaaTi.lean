import Derived.Test.YtdabcflpcklfiaaTh
/- Plain mathematics: where nobody locks, the first jobs are done just at their bounds (P14). -/
namespace Go.Proofs.Ytdabcflpcklfiaa.Cad

/-- Whatever is not below its image is not below the least number that fits. -/
theorem least_le {f : Int → Int} {w : Int} (hm : ∀ a b, a ≤ b → f a ≤ f b) (h1 : ∀ u, 1 ≤ u → 1 ≤ f u) (hn : ∀ u, 1 ≤ u → u < w → f u ≠ u) : ∀ (k : Nat) (x : Int), x.toNat ≤ k → 1 ≤ x → f x ≤ x → w ≤ x
  | 0, x, hk, hx, _ => by omega
  | k + 1, x, hk, hx, hf => by
    by_cases e : f x = x
    · rcases Int.lt_or_le x w with g | g
      · exact absurd e (hn x hx g)
      · exact g
    · have h2 := h1 x hx
      have := least_le hm h1 hn k (f x) (by omega) h2 (hm _ _ hf)
      omega

/-- How many arrive before t: at f, f + P and so on. -/
def cnt (f P t : Int) : Int := if t ≤ f then 0 else (t - 1 - f) / P + 1

theorem cnt_first {f P t : Int} (_hP : 1 ≤ P) (h : t = f) : cnt f P t = 0 ∧ cnt f P (t + 1) = 1 := by
  subst h
  unfold cnt
  rw [if_pos (Int.le_refl _), if_neg (by omega)]
  have : t + 1 - 1 - t = 0 := by omega
  rw [this]
  simp

theorem cnt_next {f P t : Int} (hP : 1 ≤ P) (h : f < t) (hd : (t - f) % P = 0) : t = f + cnt f P t * P ∧ 1 ≤ cnt f P t ∧ cnt f P (t + 1) = cnt f P t + 1 := by
  obtain ⟨q, hq⟩ : ∃ q, t - f = P * q := Int.dvd_of_emod_eq_zero hd
  have hq1 : 1 ≤ q := by
    rcases Int.lt_or_le 0 q with g | g
    · omega
    · have := Int.mul_le_mul_of_nonneg_left g (show 0 ≤ P by omega)
      rw [Int.mul_zero] at this
      omega
  have e1 : (t - 1 - f) / P = q - 1 := by
    have : t - 1 - f = (P - 1) + P * (q - 1) := by rw [Int.mul_sub, Int.mul_one, ← hq]; omega
    rw [this, Int.add_mul_ediv_left _ _ (by omega), Int.ediv_eq_zero_of_lt (by omega) (by omega)]
    omega
  have e2 : (t + 1 - 1 - f) / P = q := by
    have : t + 1 - 1 - f = P * q := by omega
    rw [this, Int.mul_ediv_cancel_left _ (by omega)]
  unfold cnt
  rw [if_neg (by omega), if_neg (by omega), e1, e2]
  refine ⟨?_, by omega, by omega⟩
  rw [show q - 1 + 1 = q by omega, Int.mul_comm]
  omega

theorem cnt_same {f P t : Int} (hP : 1 ≤ P) (h : t ≠ f) (hd : ¬ (f < t ∧ (t - f) % P = 0)) : cnt f P (t + 1) = cnt f P t := by
  unfold cnt
  rcases Int.lt_or_le f t with g | g
  · rw [if_neg (by omega), if_neg (by omega)]
    have hne : (t - f) % P ≠ 0 := fun e => hd ⟨g, e⟩
    have h1 := Int.emod_add_mul_ediv (t - f) P
    have h2 := Int.emod_nonneg (t - f) (show P ≠ 0 by omega)
    have h3 := Int.emod_lt_of_pos (t - f) (show 0 < P by omega)
    have e2 : (t - 1 - f) / P = (t - f) / P := by
      have : t - 1 - f = ((t - f) % P - 1) + P * ((t - f) / P) := by omega
      rw [this, Int.add_mul_ediv_left _ _ (by omega), Int.ediv_eq_zero_of_lt (by omega) (by omega)]
      omega
    have : t + 1 - 1 - f = t - f := by omega
    rw [this, e2]
  · rw [if_pos (by omega), if_pos g]

theorem cnt_ceil {z J P x : Int} (hP : 1 ≤ P) (hJ : 0 ≤ J) (hx : 1 ≤ x) : cnt (z - J) P (z + x) = ceilD (x + J) P := by
  unfold cnt ceilD
  rw [if_neg (by omega)]
  have : x + J + P - 1 = (z + x - 1 - (z - J)) + P * 1 := by omega
  rw [this, Int.add_mul_ediv_left _ _ (by omega)]

/-- The sum over a level from below. -/
theorem level_ge {P J dm : Nat → Int} {Z : Nat → Int} {i : Nat} {w : Int} {f : Nat → Int} {own : Int} : ∀ n, (∀ j, j < n → Z i < Z j → ceilD (w + J j) (P j) * dm j ≤ f j) → (∀ j, j < n → 0 ≤ f j) → (i < n → own ≤ f i) →
    inter P J dm (fun j => decide (Z i < Z j)) w n + (if i < n then own else 0) ≤ sumTo f n
  | 0, _, _, _ => by simp [sumTo, inter]
  | n + 1, h1, h2, h3 => by
    have ih := level_ge (P := P) (J := J) (dm := dm) (w := w) (own := own) n (fun j hj => h1 j (by omega)) (fun j hj => h2 j (by omega)) (fun h => h3 (by omega))
    unfold sumTo inter
    by_cases e : i = n
    · subst e
      rw [if_neg (Nat.lt_irrefl _)] at ih
      rw [if_pos (Nat.lt_succ_self _)]
      have := h3 (by omega)
      have hno : ¬ (decide (Z i < Z i) = true) := by simp
      rw [if_neg hno]
      omega
    · by_cases c : Z i < Z n
      · have := h1 n (by omega) c
        have hyes : decide (Z i < Z n) = true := by simpa using c
        rw [if_pos hyes]
        by_cases g : i < n
        · rw [if_pos g] at ih; rw [if_pos (by omega)]; omega
        · rw [if_neg g] at ih; rw [if_neg (by omega)]; omega
      · have := h2 n (by omega)
        have hno : ¬ (decide (Z i < Z n) = true) := by simpa using c
        rw [if_neg hno]
        by_cases g : i < n
        · rw [if_pos g] at ih; rw [if_pos (by omega)]; omega
        · rw [if_neg g] at ih; rw [if_neg (by omega)]; omega

/-- The ticks that task j has had. -/
def usedOf (S : Sy) (m : Mc) (j : Nat) : Int := dmS S j * (m.done j : Int) + (match m.q j with | [] => 0 | x :: _ => dmS S j - x.left)

/-- The run with the jobs that the document names: A j of task j have arrived. -/
structure Rn (S : Sy) (W B : Nat → Int) (z : Int) (m : Mc) (A : Nat → Int) : Prop where
  t : TInv S W B m
  ok : Ok S m
  all : ∀ j, j < S.n → (m.done j : Int) + ((m.q j).length : Int) = A j
  job : ∀ j, j < S.n → ∀ x ∈ m.q j, x.arr = z - S.J j + (A j - 1) * S.P j ∧ x.rel = (if A j = 1 then z else x.arr) ∧ x.left ≤ dmS S j
  lastA : ∀ j, j < S.n → 1 ≤ A j → m.last j = z - S.J j + (A j - 1) * S.P j
  work : sumTo (usedOf S m) S.n + m.idle = m.now
  idl : z ≤ m.idle ∨ m.idle = m.now

theorem sumTo_start (S : Sy) : ∀ n, sumTo (usedOf S start) n = 0
  | 0 => rfl
  | n + 1 => by
    unfold sumTo
    rw [sumTo_start S n]
    simp [usedOf, start]

theorem rn_start {S : Sy} {W B : Nat → Int} {z : Int} (hs : SyOk S) (hb : Bd S W B) (ho : Ok S start) : Rn S W B z start (fun _ => 0) :=
  ⟨t_start hs hb, ho, fun j _ => by simp [start], fun j _ x hx => by simp [start] at hx, fun j _ h => by omega, by rw [sumTo_start]; rfl, .inr rfl⟩

/-- No job is released before z. -/
theorem Rn.rel_ge {S : Sy} {W B : Nat → Int} {z : Int} {m : Mc} {A : Nat → Int} (hb : Bd S W B) (h : Rn S W B z m A) {j : Nat} (hj : j < S.n) {x : Jb} (hx : x ∈ m.q j) : 1 ≤ A j ∧ z ≤ x.rel := by
  obtain ⟨h1, h2, _⟩ := h.job j hj x hx
  have hA : 1 ≤ A j := by
    have := h.all j hj
    have : 1 ≤ (m.q j).length := List.length_pos_of_mem hx
    omega
  refine ⟨hA, ?_⟩
  rw [h2]
  split
  · omega
  · rename_i e
    have h3 := hb.fits j hj
    have h4 := hb.pos j hj
    have h5 := hb.per j hj
    have h6 := Int.mul_le_mul_of_nonneg_right (show (1 : Int) ≤ A j - 1 by omega) (show 0 ≤ S.P j by omega)
    rw [Int.one_mul] at h6
    omega

end Go.Proofs.Ytdabcflpcklfiaa.Cad
