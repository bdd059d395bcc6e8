import Derived.Test.YtdabcflpcklfiaaK27
/- Which sets of tasks can all be in time, when all the others are lower. -/
namespace Go.Proofs.Ytdabcflpcklfiaa
open Go.RowKit

/-- What the bound of task i is, with just the tasks of the set H above it. -/
def SetB (T : TD) (n : Nat) (H : Nat → Bool) (i : Nat) (r : Int) : Prop :=
  ∃ s, BcTo T (withI H i) n n 0 s ∧ Cad.IsBound (fun u => T.dm i + s + Cad.inter T.P T.J T.dm H u n) (T.J i) (T.D i) r

theorem isMax_unique {S : Int → Prop} {a b : Int} (h : Cad.IsMax S a) (h' : Cad.IsMax S b) : a = b := by
  obtain ⟨a0, a1, a2⟩ := h
  obtain ⟨b0, b1, b2⟩ := h'
  rcases a1 with a1 | a1 <;> rcases b1 with b1 | b1
  · omega
  · have := a2 _ b1; omega
  · have := b2 _ a1; omega
  · have := a2 _ b1; have := b2 _ a1; omega

theorem setB_unique {T : TD} {n i : Nat} {H : Nat → Bool} {r r' : Int} (h : SetB T n H i r) (h' : SetB T n H i r') : r = r' := by
  obtain ⟨s, h1, h2⟩ := h
  obtain ⟨s', h1', h2'⟩ := h'
  obtain rfl := isMax_unique h1 h1'
  exact Cad.isBound_unique h2 h2'

/-- The set without task i. -/
def dropI (H : Nat → Bool) (i j : Nat) : Bool := if j = i then false else H j

theorem dropI_self {H : Nat → Bool} {i : Nat} : dropI H i i = false := if_pos rfl
theorem dropI_ne {H : Nat → Bool} {i j : Nat} (h : j ≠ i) : dropI H i j = H j := if_neg h
theorem dropI_le {H : Nat → Bool} {i j : Nat} (h : dropI H i j = true) : H j = true ∧ j ≠ i := by
  by_cases e : j = i
  · subst e; rw [dropI_self] at h; cases h
  · rw [dropI_ne e] at h; exact ⟨h, e⟩
theorem dropI_comm {H : Nat → Bool} {i k : Nat} : dropI (dropI H i) k = dropI (dropI H k) i := by
  funext j
  unfold dropI
  by_cases a : j = k <;> by_cases b : j = i <;> simp [a, b]

/-- How many there are in a set. -/
def cntS (H : Nat → Bool) : Nat → Nat
  | 0 => 0
  | m + 1 => cntS H m + (if H m = true then 1 else 0)

theorem cntS_le {H : Nat → Bool} : ∀ m, cntS H m ≤ m
  | 0 => Nat.le_refl _
  | m + 1 => by
    have := cntS_le (H := H) m
    simp only [cntS]
    by_cases h : H m = true
    · rw [if_pos h]; omega
    · rw [if_neg h]; omega

theorem cntS_drop_ge {H : Nat → Bool} {i : Nat} : ∀ m, m ≤ i → cntS (dropI H i) m = cntS H m
  | 0, _ => rfl
  | m + 1, h => by
    simp only [cntS]
    rw [cntS_drop_ge m (by omega), dropI_ne (by omega)]

theorem cntS_drop {H : Nat → Bool} {i : Nat} (hi : H i = true) : ∀ m, i < m → cntS (dropI H i) m + 1 = cntS H m
  | 0, h => by omega
  | m + 1, h => by
    simp only [cntS]
    by_cases e : m = i
    · subst e
      rw [cntS_drop_ge m (Nat.le_refl _), dropI_self, if_pos hi]
      simp
    · have := cntS_drop hi m (by omega)
      rw [dropI_ne e]
      omega

theorem cntS_zero {H : Nat → Bool} : ∀ m, cntS H m = 0 → ∀ q, q < m → H q = false
  | 0, _, q, hq => by omega
  | m + 1, h, q, hq => by
    simp only [cntS] at h
    by_cases g : H m = true
    · rw [if_pos g] at h; omega
    · by_cases e : q = m
      · subst e; simpa using g
      · exact cntS_zero m (by omega) q (by omega)

/-- Has task i a bound, with the set H above it? -/
def Has (T : TD) (n : Nat) (H : Nat → Bool) (i : Nat) : Prop := ∃ r, SetB T n H i r ∧ 0 < r

theorem has_iff {T : TD} {n i : Nat} {H : Nat → Bool} {r : Int} (h : SetB T n H i r) : Has T n H i ↔ 0 < r := by
  constructor
  · rintro ⟨r', h', h0⟩
    rw [setB_unique h h']
    exact h0
  · exact fun g => ⟨r, h, g⟩

/-- The tasks of a set can all be in time, when all the others are lower. -/
def Poss (T : TD) (n : Nat) (H : Nat → Bool) : Prop :=
  ∀ Q : (Nat → Bool) → Prop, (∀ H, (∀ q, q < n → H q = false) → Q H) → (∀ H i, i < n → H i = true → Has T n (dropI H i) i → Q (dropI H i) → Q H) → Q H

theorem Poss.nobody {T : TD} {n : Nat} {H : Nat → Bool} (h : ∀ q, q < n → H q = false) : Poss T n H := fun _ h0 _ => h0 H h
theorem Poss.low {T : TD} {n : Nat} {H : Nat → Bool} (i : Nat) (hi : i < n) (hH : H i = true) (hb : Has T n (dropI H i) i) (hp : Poss T n (dropI H i)) : Poss T n H := fun Q h0 h1 => h1 H i hi hH hb (hp Q h0 h1)

/-- The task that gets the lowest priority of a set. -/
def Low (T : TD) (n : Nat) (H : Nat → Bool) (i : Nat) : Prop :=
  i < n ∧ H i = true ∧ Has T n (dropI H i) i ∧ Poss T n (dropI H i) ∧ ∀ j, i < j → j < n → H j = true → Has T n (dropI H j) j → ¬ Poss T n (dropI H j)

theorem low_unique {T : TD} {n i j : Nat} {H : Nat → Bool} (h : Low T n H i) (h' : Low T n H j) : i = j := by
  rcases Nat.lt_trichotomy i j with g | g | g
  · exact absurd h'.2.2.2.1 (h.2.2.2.2 j g h'.1 h'.2.1 h'.2.2.1)
  · exact g
  · exact absurd h.2.2.2.1 (h'.2.2.2.2 i g h.1 h.2.1 h.2.2.1)

theorem Low.poss {T : TD} {n i : Nat} {H : Nat → Bool} (h : Low T n H i) : Poss T n H := Poss.low i h.1 h.2.1 h.2.2.1 h.2.2.2.1

theorem poss_one {T : TD} {n : Nat} {H : Nat → Bool} (h : Poss T n H) : (∀ q, q < n → H q = false) ∨ ∃ i, i < n ∧ H i = true ∧ Has T n (dropI H i) i ∧ Poss T n (dropI H i) := by
  have key : Poss T n H ∧ ((∀ q, q < n → H q = false) ∨ ∃ i, i < n ∧ H i = true ∧ Has T n (dropI H i) i ∧ Poss T n (dropI H i)) :=
    h (fun H => Poss T n H ∧ ((∀ q, q < n → H q = false) ∨ ∃ i, i < n ∧ H i = true ∧ Has T n (dropI H i) i ∧ Poss T n (dropI H i))) (fun _ h0 => ⟨.nobody h0, .inl h0⟩) (fun _ i a b c d => ⟨.low i a b c d.1, .inr ⟨i, a, b, c, d.1⟩⟩)
  exact key.2

/-- Priorities, while they are found: those of H have none yet, the others have those below p (if Q: each the lowest one of its set). -/
structure Part (Q : Prop) (T : TD) (n p : Nat) (H : Nat → Bool) (Z : Nat → Int) : Prop where
  lt : ∀ j, j < n → H j = false → 0 ≤ Z j ∧ Z j < p
  inj : ∀ a b, a < n → b < n → H a = false → H b = false → Z a = Z b → a = b
  has : ∀ j, j < n → H j = false → Has T n (fun q => if q < n then H q || decide (Z j < Z q) else false) j
  low : ∀ j, j < n → H j = false → Q → Low T n (fun q => if q < n then H q || decide (Z j ≤ Z q) else false) j
  cnt : cntS H n + p = n
  sub : ∀ q, n ≤ q → H q = false

theorem Part.start {Q : Prop} {T : TD} {n : Nat} {Z : Nat → Int} : Part Q T n 0 (fun q => decide (q < n)) Z := by
  refine ⟨?_, ?_, ?_, ?_, ?_, fun q hq => by simpa using hq⟩
  · intro j hj h; simp [hj] at h
  · intro a b ha _ h; simp [ha] at h
  · intro j hj h; simp [hj] at h
  · intro j hj h; simp [hj] at h
  · have : ∀ m, m ≤ n → cntS (fun q => decide (q < n)) m = m := by
      intro m
      induction m with
      | zero => intro _; rfl
      | succ m ih =>
        intro hm
        simp only [cntS]
        rw [ih (by omega), if_pos (by simp only [decide_eq_true_eq]; omega)]
    rw [this n (Nat.le_refl _)]; rfl

def updZ (Z : Nat → Int) (i : Nat) (x : Int) (j : Nat) : Int := if j = i then x else Z j

theorem Part.next {Q : Prop} {T : TD} {n p i : Nat} {H : Nat → Bool} {Z : Nat → Int} (h : Part Q T n p H Z) (hi : i < n) (hH : H i = true) (hb : Has T n (dropI H i) i) (hl : Q → Low T n H i) : Part Q T n (p + 1) (dropI H i) (updZ Z i p) := by
  have old : ∀ j, j < n → dropI H i j = false → j ≠ i → H j = false := fun j _ hj e => by rw [dropI_ne e] at hj; exact hj
  refine ⟨?_, ?_, ?_, ?_, ?_, ?_⟩
  · intro j hj hd
    unfold updZ
    by_cases e : j = i
    · rw [if_pos e]; omega
    · rw [if_neg e]
      have := h.lt j hj (old j hj hd e)
      omega
  · intro a b ha hb' hda hdb he
    unfold updZ at he
    by_cases ea : a = i <;> by_cases eb : b = i
    · omega
    · rw [if_pos ea, if_neg eb] at he
      have := h.lt b hb' (old b hb' hdb eb)
      omega
    · rw [if_neg ea, if_pos eb] at he
      have := h.lt a ha (old a ha hda ea)
      omega
    · rw [if_neg ea, if_neg eb] at he
      exact h.inj a b ha hb' (old a ha hda ea) (old b hb' hdb eb) he
  · intro j hj hd
    by_cases e : j = i
    · subst e
      have : (fun q => if q < n then dropI H j q || decide (updZ Z j p j < updZ Z j p q) else false) = dropI H j := by
        funext q
        by_cases hq : q < n
        · rw [if_pos hq]
          by_cases eq : q = j
          · subst eq
            simp [dropI_self]
          · cases hh : dropI H j q with
            | true => simp
            | false =>
              have := h.lt q hq (old q hq hh eq)
              simp only [updZ, if_pos, if_neg eq, Bool.false_or, decide_eq_false_iff_not]
              omega
        · rw [if_neg hq, dropI_ne (by omega), h.sub q (by omega)]
      rw [this]
      exact hb
    · have hj' := h.lt j hj (old j hj hd e)
      have : (fun q => if q < n then dropI H i q || decide (updZ Z i p j < updZ Z i p q) else false) = (fun q => if q < n then H q || decide (Z j < Z q) else false) := by
        funext q
        by_cases hq : q < n
        · rw [if_pos hq, if_pos hq]
          by_cases eq : q = i
          · subst eq
            simp only [dropI_self, hH, updZ, if_neg e, if_pos, Bool.false_or, Bool.true_or, decide_eq_true_eq]
            omega
          · simp only [dropI_ne eq, updZ, if_neg e, if_neg eq]
        · rw [if_neg hq, if_neg hq]
      rw [this]
      exact h.has j hj (old j hj hd e)
  · intro j hj hd hQ
    by_cases e : j = i
    · subst e
      have : (fun q => if q < n then dropI H j q || decide (updZ Z j p j ≤ updZ Z j p q) else false) = H := by
        funext q
        by_cases hq : q < n
        · rw [if_pos hq]
          by_cases eq : q = j
          · subst eq
            simp [hH]
          · rw [dropI_ne eq]
            cases hh : H q with
            | true => simp
            | false =>
              have := h.lt q hq hh
              simp only [updZ, if_pos, if_neg eq, Bool.false_or, decide_eq_false_iff_not]
              omega
        · rw [if_neg hq, h.sub q (by omega)]
      rw [this]
      exact hl hQ
    · have hj' := h.lt j hj (old j hj hd e)
      have : (fun q => if q < n then dropI H i q || decide (updZ Z i p j ≤ updZ Z i p q) else false) = (fun q => if q < n then H q || decide (Z j ≤ Z q) else false) := by
        funext q
        by_cases hq : q < n
        · rw [if_pos hq, if_pos hq]
          by_cases eq : q = i
          · subst eq
            simp only [dropI_self, hH, updZ, if_neg e, if_pos, Bool.false_or, Bool.true_or, decide_eq_true_eq]
            omega
          · simp only [dropI_ne eq, updZ, if_neg e, if_neg eq]
        · rw [if_neg hq, if_neg hq]
      rw [this]
      exact h.low j hj (old j hj hd e) hQ
  · have := cntS_drop hH n hi
    have := h.cnt
    omega
  · intro q hq
    rw [dropI_ne (by omega)]
    exact h.sub q hq

/-- With all priorities given: they are priorities, and each task has its bound. -/
theorem Part.done {Q : Prop} {T : TD} {n : Nat} {H : Nat → Bool} {Z : Nat → Int} (h : Part Q T n n H Z) : Cad.PrioB Z n ∧ (∀ i, i < n → Has T n (abv Z n i) i) ∧ (Q → ∀ i, i < n → Low T n (fun q => if q < n then decide (Z i ≤ Z q) else false) i) := by
  have h0 := cntS_zero (H := H) n (by have := h.cnt; omega)
  refine ⟨⟨fun k hk => ?_, fun a b ha hb => h.inj a b ha hb (h0 a ha) (h0 b hb)⟩, fun i hi => ?_, fun hQ i hi => ?_⟩
  · have := h.lt k hk (h0 k hk)
    exact this
  · have := h.has i hi (h0 i hi)
    have e : (fun q => if q < n then H q || decide (Z i < Z q) else false) = abv Z n i := by
      funext q
      unfold abv
      by_cases hq : q < n
      · rw [if_pos hq, if_pos hq, h0 q hq]; rfl
      · rw [if_neg hq, if_neg hq]
    rw [e] at this
    exact this
  · have := h.low i hi (h0 i hi) hQ
    have e : (fun q => if q < n then H q || decide (Z i ≤ Z q) else false) = (fun q => if q < n then decide (Z i ≤ Z q) else false) := by
      funext q
      by_cases hq : q < n
      · rw [if_pos hq, if_pos hq, h0 q hq]; rfl
      · rw [if_neg hq, if_neg hq]
    rw [e] at this
    exact this

theorem codeB_set {T : TD} {Z : Nat → Int} {n i : Nat} {r : Int} : CodeB T Z n i r = SetB T n (abv Z n i) i r := rfl

/-- Where there are priorities with which all have bounds, it is possible. -/
theorem poss_of_prio {T : TD} {n : Nat} {Z : Nat → Int} (hp : Cad.PrioB Z n) (hb : ∀ i, i < n → Has T n (abv Z n i) i) : Poss T n (fun q => decide (q < n)) := by
  have main : ∀ d p : Nat, p + d = n → Poss T n (fun q => decide (q < n ∧ (p : Int) ≤ Z q)) := by
    intro d
    induction d with
    | zero =>
      intro p hd
      refine Poss.nobody (fun q hq => ?_)
      have := hp.1 q hq
      simp only [decide_eq_false_iff_not]
      omega
    | succ d ih =>
      intro p hd
      have h1 := ih (p + 1) (by omega)
      by_cases hx : ∃ i, i < n ∧ Z i = p
      · obtain ⟨i, hi, hz⟩ := hx
        have e : dropI (fun q => decide (q < n ∧ (p : Int) ≤ Z q)) i = (fun q => decide (q < n ∧ ((p + 1 : Nat) : Int) ≤ Z q)) := by
          funext q
          by_cases eq : q = i
          · subst eq
            rw [dropI_self]
            symm
            simp only [decide_eq_false_iff_not]
            omega
          · rw [dropI_ne eq]
            by_cases hq : q < n
            · have : Z q ≠ p := fun g => eq (hp.2 q i hq hi (by omega))
              simp only [hq, true_and, decide_eq_decide]
              omega
            · simp [hq]
        have e2 : abv Z n i = (fun q => decide (q < n ∧ ((p + 1 : Nat) : Int) ≤ Z q)) := by
          funext q
          unfold abv
          by_cases hq : q < n
          · rw [if_pos hq]
            simp only [hq, true_and, decide_eq_decide]
            omega
          · rw [if_neg hq]
            simp [hq]
        refine Poss.low i hi (by simp only [decide_eq_true_eq]; omega) ?_ ?_
        · rw [e, ← e2]; exact hb i hi
        · rw [e]; exact h1
      · have e : (fun q => decide (q < n ∧ (p : Int) ≤ Z q)) = (fun q => decide (q < n ∧ ((p + 1 : Nat) : Int) ≤ Z q)) := by
          funext q
          by_cases hq : q < n
          · have : Z q ≠ p := fun g => hx ⟨q, hq, g⟩
            simp only [hq, true_and, decide_eq_decide]
            omega
          · simp [hq]
        rw [e]
        exact h1
  have := main n 0 (by omega)
  have e : (fun q => decide (q < n ∧ ((0 : Nat) : Int) ≤ Z q)) = (fun q => decide (q < n)) := by
    funext q
    by_cases hq : q < n
    · have := hp.1 q hq
      simp only [hq, true_and, decide_eq_decide]
      simp
      omega
    · simp [hq]
  rw [e] at this
  exact this

end Go.Proofs.Ytdabcflpcklfiaa
