/- Plain mathematics: what a program of steps, its times and a set of tasks come to, as functions on numbers. -/
namespace Go.Proofs.Ytdabcflpcklfiaa.Cad

/-- What is held behind one step, where it may be. -/
def stepF (h : List Int) (behind : Bool) (k n : Int) : Option (List Int) :=
  if k = 1 then (if 1 ≤ n ∧ n ≤ 100 then some h else none)
  else if k = 2 then (if 0 ≤ n ∧ n ≤ 7 ∧ n ∉ h then some (h ++ [n]) else none)
  else if k = 3 then (if behind = false ∧ h.getLast? = some n then some h.dropLast else none)
  else none

def prevLock (K : Nat → Int) (i : Nat) : Bool := decide (0 < i ∧ K (i - 1) = 2)

def stTo (K N : Nat → Int) : Nat → Option (List Int)
  | 0 => some []
  | i + 1 => (stTo K N i).bind fun h => stepF h (prevLock K i) (K i) (N i)

def progB (K N : Nat → Int) (len : Nat) : Bool :=
  decide (1 ≤ len ∧ len ≤ 16 ∧ K (len - 1) = 1 ∧ stTo K N len = some [])

theorem stTo_none (K N : Nat → Int) (i j : Nat) (h : i ≤ j) (hn : stTo K N i = none) : stTo K N j = none := by
  induction j with
  | zero => obtain rfl : i = 0 := by omega
            exact hn
  | succ j ih =>
    by_cases e : i = j + 1
    · subst e; exact hn
    · simp [stTo, ih (by omega)]

theorem stTo_len (K N : Nat → Int) : ∀ (i : Nat) (h : List Int), stTo K N i = some h → h.length ≤ i := by
  intro i
  induction i with
  | zero => intro h hh; simp [stTo] at hh; subst hh; simp
  | succ i ih =>
    intro h hh
    simp only [stTo, Option.bind_eq_some_iff] at hh
    obtain ⟨g, hg, hs⟩ := hh
    have := ih g hg
    unfold stepF at hs
    split at hs
    · split at hs
      · cases hs; omega
      · cases hs
    · split at hs
      · split at hs
        · cases hs; simp; omega
        · cases hs
      · split at hs
        · split at hs
          · cases hs; simp; omega
          · cases hs
        · cases hs

theorem stTo_bad {K N : Nat → Int} {i len : Nat} {h : List Int} (hi : i < len) (hs : stTo K N i = some h) (hb : stepF h (prevLock K i) (K i) (N i) = none) : progB K N len = false := by
  have h1 : stTo K N (i + 1) = none := by simp [stTo, hs, hb]
  have h2 := stTo_none K N (i + 1) len (by omega) h1
  simp [progB, h2]

def hasB (Z : Nat → Int) (len : Nat) (n : Int) : Bool := decide (∃ i, i < len ∧ Z i = n)

theorem hasB_yes {Z : Nat → Int} {len k : Nat} {n : Int} (hk : k < len) (h : (Z k == n) = true) : hasB Z len n = true := by
  simp at h; simp [hasB]; exact ⟨k, hk, h⟩

theorem hasB_no {Z : Nat → Int} {len : Nat} {n : Int} (h : ∀ j, j < len → Z j ≠ n) : hasB Z len n = false := by
  simp [hasB]; exact h

theorem hasB_list (l : List Int) (n : Int) : hasB (fun i => l.getD i 0) l.length n = decide (n ∈ l) := by
  unfold hasB
  rw [decide_eq_decide]
  constructor
  · rintro ⟨i, hi, h⟩
    have e : l.getD i 0 = l[i] := by simp [List.getD, hi]
    rw [← h]; show l.getD i 0 ∈ l; rw [e]
    exact List.getElem_mem hi
  · intro h
    obtain ⟨i, hi, h⟩ := List.mem_iff_getElem.1 h
    exact ⟨i, hi, by simp [List.getD, hi, h]⟩

theorem stTo_step {K N : Nat → Int} {i : Nat} {h h' : List Int} (hs : stTo K N i = some h) (hb : stepF h (prevLock K i) (K i) (N i) = some h') : stTo K N (i + 1) = some h' := by
  simp [stTo, hs, hb]

theorem prevLock_succ (K : Nat → Int) (k : Nat) : prevLock K (k + 1) = (K k == 2) := by
  rw [Bool.eq_iff_iff]; simp [prevLock]

theorem progB_end2 {K N : Nat → Int} {len : Nat} {h : List Int} (h1 : 1 ≤ len) (h2 : len ≤ 16) (hs : stTo K N len = some h) (h0 : h = []) : progB K N len = (K (len - 1) == 1) := by
  rw [Bool.eq_iff_iff]
  subst h0
  simp [progB, h1, h2, hs]

theorem progB_end3 {K N : Nat → Int} {len : Nat} {h : List Int} (hs : stTo K N len = some h) (h0 : h ≠ []) : progB K N len = false := by
  simp [progB, hs, h0]

theorem stepF_compute {h : List Int} {b : Bool} {n : Int} (h1 : 1 ≤ n) (h2 : n ≤ 100) : stepF h b 1 n = some h := by simp [stepF, h1, h2]
theorem stepF_compute_no {h : List Int} {b : Bool} {n : Int} (h1 : ¬ (1 ≤ n ∧ n ≤ 100)) : stepF h b 1 n = none := by unfold stepF; rw [if_pos rfl, if_neg h1]
theorem stepF_lock {h : List Int} {b : Bool} {n : Int} (h1 : 0 ≤ n) (h2 : n ≤ 7) (h3 : n ∉ h) : stepF h b 2 n = some (h ++ [n]) := by simp [stepF, h1, h2, h3]
theorem stepF_lock_no {h : List Int} {b : Bool} {n : Int} (h1 : ¬ (0 ≤ n ∧ n ≤ 7 ∧ n ∉ h)) : stepF h b 2 n = none := by unfold stepF; rw [if_neg (by omega), if_pos rfl, if_neg h1]
theorem stepF_unlock {h : List Int} {n : Int} (h1 : h.getLast? = some n) : stepF h false 3 n = some h.dropLast := by simp [stepF, h1]
theorem stepF_unlock_no {h : List Int} {b : Bool} {n : Int} (h1 : ¬ (b = false ∧ h.getLast? = some n)) : stepF h b 3 n = none := by unfold stepF; rw [if_neg (by omega), if_neg (by omega), if_pos rfl, if_neg h1]
theorem stepF_else {h : List Int} {b : Bool} {k n : Int} (h1 : k ≠ 1) (h2 : k ≠ 2) (h3 : k ≠ 3) : stepF h b k n = none := by simp [stepF, h1, h2, h3]

theorem last_getD {h : List Int} (hn : h ≠ []) : h.getLast? = some (h.getD (h.length - 1) 0) := by
  have : 0 < h.length := List.length_pos_iff.2 hn
  rw [List.getLast?_eq_getElem?]
  simp [List.getD]
  rw [List.getElem?_eq_getElem (by omega)]
  simp

theorem progB_end {K N : Nat → Int} {len : Nat} {h : List Int} (h1 : 1 ≤ len) (h2 : len ≤ 16) (hl : K (len - 1) = 1) (hs : stTo K N len = some h) : progB K N len = ((h.length : Int) == 0) := by
  rw [Bool.eq_iff_iff]
  simp [progB, h1, h2, hl, hs]

def timesB (p d j : Int) : Bool := decide (1 ≤ p ∧ p ≤ 10000 ∧ 1 ≤ d ∧ d ≤ p ∧ 0 ≤ j ∧ j ≤ d)

def taskE (p d j : Int) (K N : Nat → Int) (len : Nat) : Int := if timesB p d j = true then (if progB K N len = true then 0 else 3) else 2

def chkFrom (E : Nat → Int) : Nat → Nat → Int × Int
  | 0, _ => (0, 0)
  | m + 1, i => if E i = 0 then chkFrom E m (i + 1) else (E i, i)

def chk (E : Nat → Int) (n : Nat) : Int × Int := chkFrom E n 0

theorem chkFrom_skip (E : Nat → Int) : ∀ (k m i : Nat), (∀ j, i ≤ j → j < i + k → E j = 0) → chkFrom E (k + m) i = chkFrom E m (i + k)
  | 0, m, i, _ => by simp
  | k + 1, m, i, h => by
    rw [show k + 1 + m = (k + m) + 1 from by omega]
    simp only [chkFrom]
    rw [if_pos (h i (Nat.le_refl _) (by omega)), chkFrom_skip E k m (i + 1) (fun j h1 h2 => h j (by omega) (by omega))]
    congr 1; omega

theorem chk_hit {E : Nat → Int} {n k : Nat} (hk : k < n) (hg : ∀ j, j < k → E j = 0) (hb : E k ≠ 0) : chk E n = (E k, (k : Int)) := by
  unfold chk
  rw [show n = k + ((n - k - 1) + 1) from by omega, chkFrom_skip E k _ 0 (fun j _ h => hg j (by omega))]
  simp [chkFrom, hb]

theorem chk_ok {E : Nat → Int} {n : Nat} (hg : ∀ j, j < n → E j = 0) : chk E n = (0, 0) := by
  unfold chk
  have := chkFrom_skip E n 0 0 (fun j _ h => hg j (by omega))
  simpa [chkFrom] using this

end Go.Proofs.Ytdabcflpcklfiaa.Cad
