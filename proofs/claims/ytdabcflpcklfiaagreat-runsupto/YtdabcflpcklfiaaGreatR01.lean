
/- Plain mathematics: what a program of steps, its times and a set of tasks come to, as functions on numbers. -/
namespace Go.Proofs.YtdabcflpcklfiaaGreat.Cad

/-- What is held behind one step, where it may be. -/
def stepF (h : List Int) (behind : Bool) (k n : Int) : Option (List Int) :=
  if k = 1 then (if 1 ≤ n ∧ n ≤ 100 then some h else none)
  else if k = 2 then (if 0 ≤ n ∧ n ≤ 7 ∧ n ∉ h then some (h ++ [n]) else none)
  else if k = 3 then (if behind = false ∧ h.getLast? = some n then some h.dropLast else none)
  else none

def prevLock (K : Nat → Int) (i : Nat) : Bool := decide (0 < i ∧ K (i - 1) = 2)

def stTo (K N : Nat → Int) : Nat → Option (List Int)
  | 0 => some []
  | i + 1 => (stTo K N i).bind fun h => stepF h (prevLock K i) (K i) (N i)

def progB (K N : Nat → Int) (len : Nat) : Bool :=
  decide (1 ≤ len ∧ len ≤ 16 ∧ K (len - 1) = 1 ∧ stTo K N len = some [])

theorem stTo_none (K N : Nat → Int) (i j : Nat) (h : i ≤ j) (hn : stTo K N i = none) : stTo K N j = none := by
  induction j with
  | zero => obtain rfl : i = 0 := by omega
            exact hn
  | succ j ih =>
    by_cases e : i = j + 1
    · subst e; exact hn
    · simp [stTo, ih (by omega)]

theorem stTo_len (K N : Nat → Int) : ∀ (i : Nat) (h : List Int), stTo K N i = some h → h.length ≤ i := by
  intro i
  induction i with
  | zero => intro h hh; simp [stTo] at hh; subst hh; simp
  | succ i ih =>
    intro h hh
    simp only [stTo, Option.bind_eq_some_iff] at hh
    obtain ⟨g, hg, hs⟩ := hh
    have := ih g hg
    unfold stepF at hs
    split at hs
    · split at hs
      · cases hs; omega
      · cases hs
    · split at hs
      · split at hs
        · cases hs; simp; omega
        · cases hs
      · split at hs
        · split at hs
          · cases hs; simp; omega
          · cases hs
        · cases hs

theorem stTo_bad {K N : Nat → Int} {i len : Nat} {h : List Int} (hi : i < len) (hs : stTo K N i = some h) (hb : stepF h (prevLock K i) (K i) (N i) = none) : progB K N len = false := by
  have h1 : stTo K N (i + 1) = none := by simp [stTo, hs, hb]
  have h2 := stTo_none K N (i + 1) len (by omega) h1
  simp [progB, h2]

def hasB (Z : Nat → Int) (len : Nat) (n : Int) : Bool := decide (∃ i, i < len ∧ Z i = n)

theorem hasB_yes {Z : Nat → Int} {len k : Nat} {n : Int} (hk : k < len) (h : (Z k == n) = true) : hasB Z len n = true := by
  simp at h; simp [hasB]; exact ⟨k, hk, h⟩

theorem hasB_no {Z : Nat → Int} {len : Nat} {n : Int} (h : ∀ j, j < len → Z j ≠ n) : hasB Z len n = false := by
  simp [hasB]; exact h

theorem hasB_list (l : List Int) (n : Int) : hasB (fun i => l.getD i 0) l.length n = decide (n ∈ l) := by
  unfold hasB
  rw [decide_eq_decide]
  constructor
  · rintro ⟨i, hi, h⟩
    have e : l.getD i 0 = l[i] := by simp [List.getD, hi]
    rw [← h]; show l.getD i 0 ∈ l; rw [e]
    exact List.getElem_mem hi
  · intro h
    obtain ⟨i, hi, h⟩ := List.mem_iff_getElem.1 h
    exact ⟨i, hi, by simp [List.getD, hi, h]⟩

theorem stTo_step {K N : Nat → Int} {i : Nat} {h h' : List Int} (hs : stTo K N i = some h) (hb : stepF h (prevLock K i) (K i) (N i) = some h') : stTo K N (i + 1) = some h' := by
  simp [stTo, hs, hb]

theorem prevLock_succ (K : Nat → Int) (k : Nat) : prevLock K (k + 1) = (K k == 2) := by
  rw [Bool.eq_iff_iff]; simp [prevLock]

theorem progB_end2 {K N : Nat → Int} {len : Nat} {h : List Int} (h1 : 1 ≤ len) (h2 : len ≤ 16) (hs : stTo K N len = some h) (h0 : h = []) : progB K N len = (K (len - 1) == 1) := by
  rw [Bool.eq_iff_iff]
  subst h0
  simp [progB, h1, h2, hs]

theorem progB_end3 {K N : Nat → Int} {len : Nat} {h : List Int} (hs : stTo K N len = some h) (h0 : h ≠ []) : progB K N len = false := by
  simp [progB, hs, h0]

theorem stepF_compute {h : List Int} {b : Bool} {n : Int} (h1 : 1 ≤ n) (h2 : n ≤ 100) : stepF h b 1 n = some h := by simp [stepF, h1, h2]
theorem stepF_compute_no {h : List Int} {b : Bool} {n : Int} (h1 : ¬ (1 ≤ n ∧ n ≤ 100)) : stepF h b 1 n = none := by unfold stepF; rw [if_pos rfl, if_neg h1]
theorem stepF_lock {h : List Int} {b : Bool} {n : Int} (h1 : 0 ≤ n) (h2 : n ≤ 7) (h3 : n ∉ h) : stepF h b 2 n = some (h ++ [n]) := by simp [stepF, h1, h2, h3]
theorem stepF_lock_no {h : List Int} {b : Bool} {n : Int} (h1 : ¬ (0 ≤ n ∧ n ≤ 7 ∧ n ∉ h)) : stepF h b 2 n = none := by unfold stepF; rw [if_neg (by omega), if_pos rfl, if_neg h1]
theorem stepF_unlock {h : List Int} {n : Int} (h1 : h.getLast? = some n) : stepF h false 3 n = some h.dropLast := by simp [stepF, h1]
theorem stepF_unlock_no {h : List Int} {b : Bool} {n : Int} (h1 : ¬ (b = false ∧ h.getLast? = some n)) : stepF h b 3 n = none := by unfold stepF; rw [if_neg (by omega), if_neg (by omega), if_pos rfl, if_neg h1]
theorem stepF_else {h : List Int} {b : Bool} {k n : Int} (h1 : k ≠ 1) (h2 : k ≠ 2) (h3 : k ≠ 3) : stepF h b k n = none := by simp [stepF, h1, h2, h3]

theorem last_getD {h : List Int} (hn : h ≠ []) : h.getLast? = some (h.getD (h.length - 1) 0) := by
  have : 0 < h.length := List.length_pos_iff.2 hn
  rw [List.getLast?_eq_getElem?]
  simp [List.getD]
  rw [List.getElem?_eq_getElem (by omega)]
  simp

theorem progB_end {K N : Nat → Int} {len : Nat} {h : List Int} (h1 : 1 ≤ len) (h2 : len ≤ 16) (hl : K (len - 1) = 1) (hs : stTo K N len = some h) : progB K N len = ((h.length : Int) == 0) := by
  rw [Bool.eq_iff_iff]
  simp [progB, h1, h2, hl, hs]

def timesB (p d j : Int) : Bool := decide (1 ≤ p ∧ p ≤ 10000 ∧ 1 ≤ d ∧ d ≤ p ∧ 0 ≤ j ∧ j ≤ d)

def taskE (p d j : Int) (K N : Nat → Int) (len : Nat) : Int := if timesB p d j = true then (if progB K N len = true then 0 else 3) else 2

def chkFrom (E : Nat → Int) : Nat → Nat → Int × Int
  | 0, _ => (0, 0)
  | m + 1, i => if E i = 0 then chkFrom E m (i + 1) else (E i, i)

def chk (E : Nat → Int) (n : Nat) : Int × Int := chkFrom E n 0

theorem chkFrom_skip (E : Nat → Int) : ∀ (k m i : Nat), (∀ j, i ≤ j → j < i + k → E j = 0) → chkFrom E (k + m) i = chkFrom E m (i + k)
  | 0, m, i, _ => by simp
  | k + 1, m, i, h => by
    rw [show k + 1 + m = (k + m) + 1 from by omega]
    simp only [chkFrom]
    rw [if_pos (h i (Nat.le_refl _) (by omega)), chkFrom_skip E k m (i + 1) (fun j h1 h2 => h j (by omega) (by omega))]
    congr 1; omega

theorem chk_hit {E : Nat → Int} {n k : Nat} (hk : k < n) (hg : ∀ j, j < k → E j = 0) (hb : E k ≠ 0) : chk E n = (E k, (k : Int)) := by
  unfold chk
  rw [show n = k + ((n - k - 1) + 1) from by omega, chkFrom_skip E k _ 0 (fun j _ h => hg j (by omega))]
  simp [chkFrom, hb]

theorem chk_ok {E : Nat → Int} {n : Nat} (hg : ∀ j, j < n → E j = 0) : chk E n = (0, 0) := by
  unfold chk
  have := chkFrom_skip E n 0 0 (fun j _ h => hg j (by omega))
  simpa [chkFrom] using this

end Go.Proofs.YtdabcflpcklfiaaGreat.Cad

/- Plain mathematics, more: demands, sections, blocking, interference, and the least number that fits. -/
namespace Go.Proofs.YtdabcflpcklfiaaGreat.Cad

def demTo (K N : Nat → Int) : Nat → Int
  | 0 => 0
  | k + 1 => demTo K N k + (if K k = 1 then N k else 0)

def begTo (K N : Nat → Int) (r : Int) : Nat → Int
  | 0 => 0
  | k + 1 => if K k = 2 ∧ N k = r then demTo K N k else begTo K N r k

def lonTo (K N : Nat → Int) (r : Int) : Nat → Int
  | 0 => 0
  | k + 1 => if K k = 3 ∧ N k = r then max (lonTo K N r k) (demTo K N k - begTo K N r k) else lonTo K N r k

/-- What may stand at one place of a program that may be. -/
def StepOk (K N : Nat → Int) (k : Nat) : Prop :=
  (K k = 1 ∧ 1 ≤ N k ∧ N k ≤ 100) ∨ (K k = 2 ∧ 0 ≤ N k ∧ N k ≤ 7) ∨ (K k = 3 ∧ 0 ≤ N k ∧ N k ≤ 7 ∧ 1 ≤ k ∧ K (k - 1) ≠ 2)

theorem stepF_some {h h' : List Int} {b : Bool} {k n : Int} (hs : stepF h b k n = some h') :
    (k = 1 ∧ 1 ≤ n ∧ n ≤ 100 ∧ h' = h) ∨ (k = 2 ∧ 0 ≤ n ∧ n ≤ 7 ∧ n ∉ h ∧ h' = h ++ [n]) ∨ (k = 3 ∧ b = false ∧ h.getLast? = some n ∧ h' = h.dropLast) := by
  unfold stepF at hs
  by_cases h1 : k = 1
  · rw [if_pos h1] at hs
    by_cases c : 1 ≤ n ∧ n ≤ 100
    · rw [if_pos c] at hs; exact .inl ⟨h1, c.1, c.2, (Option.some.inj hs).symm⟩
    · rw [if_neg c] at hs; cases hs
  · rw [if_neg h1] at hs
    by_cases h2 : k = 2
    · rw [if_pos h2] at hs
      by_cases c : 0 ≤ n ∧ n ≤ 7 ∧ n ∉ h
      · rw [if_pos c] at hs; exact .inr (.inl ⟨h2, c.1, c.2.1, c.2.2, (Option.some.inj hs).symm⟩)
      · rw [if_neg c] at hs; cases hs
    · rw [if_neg h2] at hs
      by_cases h3 : k = 3
      · rw [if_pos h3] at hs
        by_cases c : b = false ∧ h.getLast? = some n
        · rw [if_pos c] at hs; exact .inr (.inr ⟨h3, c.1, c.2, (Option.some.inj hs).symm⟩)
        · rw [if_neg c] at hs; cases hs
      · rw [if_neg h3] at hs; cases hs

/-- A section of r that is closed below i: its Lock at k, its Unlock at e. -/
def Closed (K N : Nat → Int) (r : Int) (k e i : Nat) : Prop :=
  k < e ∧ e < i ∧ K k = 2 ∧ N k = r ∧ K e = 3 ∧ N e = r ∧ ∀ t, k < t → t < e → ¬ (K t = 3 ∧ N t = r)

/-- A section of r that is open at i. -/
def Opened (K N : Nat → Int) (r : Int) (k i : Nat) : Prop :=
  k < i ∧ K k = 2 ∧ N k = r ∧ begTo K N r i = demTo K N k ∧ (∀ t, k < t → t < i → ¬ (K t = 3 ∧ N t = r)) ∧ (demTo K N k < demTo K N i ∨ K (i - 1) = 2)

structure ProgInv (K N : Nat → Int) (i : Nat) (h : List Int) : Prop where
  steps : ∀ k, k < i → StepOk K N k
  nodup : h.Nodup
  rng : ∀ r, r ∈ h → 0 ≤ r ∧ r ≤ 7
  locks : ∀ r k, k < i → K k = 2 → N k = r → (∃ e, Closed K N r k e i ∧ demTo K N e - demTo K N k ≤ lonTo K N r i) ∨ (r ∈ h ∧ Opened K N r k i)
  best : ∀ r, lonTo K N r i = 0 ∨ ∃ k e, Closed K N r k e i ∧ lonTo K N r i = demTo K N e - demTo K N k
  held : ∀ r, r ∈ h → ∃ k, Opened K N r k i
  pos : ∀ r k e, Closed K N r k e i → demTo K N k < demTo K N e
  lon0 : ∀ r, 0 ≤ lonTo K N r i

theorem demTo_mono {K N : Nat → Int} {i : Nat} (h : ∀ k, k < i → StepOk K N k) : ∀ a b, a ≤ b → b ≤ i → demTo K N a ≤ demTo K N b := by
  intro a b hab hb
  induction b with
  | zero => obtain rfl : a = 0 := by omega
            exact Int.le_refl _
  | succ b ih =>
    by_cases e : a = b + 1
    · subst e; exact Int.le_refl _
    · have h1 := ih (by omega) (by omega)
      have h2 := h b (by omega)
      simp only [demTo]
      rcases h2 with ⟨k1, _, _⟩ | ⟨k1, _, _⟩ | ⟨k1, _⟩
      · rw [if_pos k1]; omega
      · rw [if_neg (by omega)]; omega
      · rw [if_neg (by omega)]; omega

theorem demTo_le {K N : Nat → Int} {i : Nat} (h : ∀ k, k < i → StepOk K N k) : demTo K N i ≤ 100 * i := by
  induction i with
  | zero => simp [demTo]
  | succ i ih =>
    have h1 := ih (fun k hk => h k (by omega))
    have h2 := h i (by omega)
    simp only [demTo]
    rcases h2 with ⟨k1, _, _⟩ | ⟨k1, _, _⟩ | ⟨k1, _⟩
    · rw [if_pos k1]; omega
    · rw [if_neg (by omega)]; omega
    · rw [if_neg (by omega)]; omega

theorem Closed.up {K N : Nat → Int} {r : Int} {k e i j : Nat} (h : Closed K N r k e i) (hij : i ≤ j) : Closed K N r k e j :=
  ⟨h.1, Nat.lt_of_lt_of_le h.2.1 hij, h.2.2⟩

theorem Closed.down {K N : Nat → Int} {r : Int} {k e i : Nat} (h : Closed K N r k e (i + 1)) (hne : ¬ (K i = 3 ∧ N i = r)) : Closed K N r k e i := by
  obtain ⟨a, b, c, d, f, g, t⟩ := h
  refine ⟨a, ?_, c, d, f, g, t⟩
  by_cases e1 : e = i
  · subst e1; exact absurd ⟨f, g⟩ hne
  · omega

theorem Opened.up {K N : Nat → Int} {r : Int} {k i : Nat} (h : Opened K N r k i) (hne : ¬ (K i = 3 ∧ N i = r)) (hb : ¬ (K i = 2 ∧ N i = r)) (hd : demTo K N k < demTo K N (i + 1) ∨ K i = 2) : Opened K N r k (i + 1) := by
  obtain ⟨a, b, c, d, t, _⟩ := h
  refine ⟨by omega, b, c, ?_, fun u h1 h2 => ?_, hd⟩
  · simp only [begTo]; rw [if_neg hb]; exact d
  · by_cases e : u = i
    · subst e; exact hne
    · exact t u h1 (by omega)

theorem mem_dropLast_iff {h : List Int} {n r : Int} (hl : h.getLast? = some n) (hn : h.Nodup) : r ∈ h.dropLast ↔ (r ∈ h ∧ r ≠ n) := by
  have hne : h ≠ [] := by intro e; simp [e] at hl
  have e := List.dropLast_concat_getLast hne
  have hlast : h.getLast hne = n := by
    rw [List.getLast?_eq_some_getLast hne] at hl
    exact Option.some.inj hl
  rw [hlast] at e
  rw [← e] at hn
  have hd := List.nodup_append.1 hn
  constructor
  · intro hr
    refine ⟨by rw [← e]; simp [hr], fun er => ?_⟩
    subst er
    exact hd.2.2 r hr r (by simp) rfl
  · rintro ⟨hr, hrn⟩
    rw [← e] at hr
    rcases List.mem_append.1 hr with h1 | h1
    · exact h1
    · simp at h1; exact absurd h1 hrn

theorem nodup_dropLast {h : List Int} (hn : h.Nodup) : h.dropLast.Nodup := List.Sublist.nodup (List.dropLast_sublist h) hn

theorem prog_inv (K N : Nat → Int) : ∀ (i : Nat) (h : List Int), stTo K N i = some h → ProgInv K N i h := by
  intro i
  induction i with
  | zero =>
    intro h hh
    simp [stTo] at hh
    subst hh
    exact ⟨fun k hk => by omega, by simp, fun r hr => by simp at hr, fun r k hk => by omega, fun r => .inl rfl, fun r hr => by simp at hr, fun r k e hc => by have := hc.2.1; omega, fun r => Int.le_refl _⟩
  | succ i ih =>
    intro h' hh
    simp only [stTo, Option.bind_eq_some_iff] at hh
    obtain ⟨h, hst, hs⟩ := hh
    have I := ih h hst
    have hmono := fun a => demTo_mono I.steps a i
    rcases stepF_some hs with ⟨k1, n1, n2, rfl⟩ | ⟨k2, n1, n2, hnin, rfl⟩ | ⟨k3, hb, hlast, rfl⟩
    · -- Compute
      have hd : demTo K N (i + 1) = demTo K N i + N i := by simp only [demTo]; rw [if_pos k1]
      have hl : ∀ r, lonTo K N r (i + 1) = lonTo K N r i := fun r => by simp only [lonTo]; rw [if_neg (by omega)]
      have up : ∀ r k, Opened K N r k i → Opened K N r k (i + 1) := fun r k ho => ho.up (by omega) (by omega) (.inl (by have := hmono k (by have := ho.1; omega) (Nat.le_refl _); omega))
      refine ⟨fun k hk => ?_, I.nodup, I.rng, fun r k hk a b => ?_, fun r => ?_, fun r hr => ?_, fun r k e hc => I.pos r k e (hc.down (by omega)), fun r => by rw [hl]; exact I.lon0 r⟩
      · by_cases e : k = i
        · subst e; exact .inl ⟨k1, n1, n2⟩
        · exact I.steps k (by omega)
      · have hki : k < i := by
          by_cases e : k = i
          · subst e; omega
          · omega
        rcases I.locks r k hki a b with ⟨e, hc, hle⟩ | ⟨hr, ho⟩
        · exact .inl ⟨e, hc.up (by omega), by rw [hl]; exact hle⟩
        · exact .inr ⟨hr, up r k ho⟩
      · rw [hl]
        rcases I.best r with h0 | ⟨k, e, hc, he⟩
        · exact .inl h0
        · exact .inr ⟨k, e, hc.up (by omega), he⟩
      · obtain ⟨k, ho⟩ := I.held r hr
        exact ⟨k, up r k ho⟩
    · -- Lock
      have hd : demTo K N (i + 1) = demTo K N i := by simp only [demTo]; rw [if_neg (by omega)]; omega
      have hl : ∀ r, lonTo K N r (i + 1) = lonTo K N r i := fun r => by simp only [lonTo]; rw [if_neg (by omega)]
      have up : ∀ r k, r ∈ h → Opened K N r k i → Opened K N r k (i + 1) := fun r k hr ho => ho.up (by omega) (fun e => hnin (by rw [e.2]; exact hr)) (.inr k2)
      have new : Opened K N (N i) i (i + 1) := ⟨by omega, k2, rfl, by simp [begTo, k2], fun t h1 h2 => by omega, .inr k2⟩
      refine ⟨fun k hk => ?_, ?_, fun r hr => ?_, fun r k hk a b => ?_, fun r => ?_, fun r hr => ?_, fun r k e hc => I.pos r k e (hc.down (by omega)), fun r => by rw [hl]; exact I.lon0 r⟩
      · by_cases e : k = i
        · subst e; exact .inr (.inl ⟨k2, n1, n2⟩)
        · exact I.steps k (by omega)
      · rw [List.nodup_append]
        exact ⟨I.nodup, by simp, fun a ha b hb => by simp at hb; subst hb; exact fun e => hnin (e ▸ ha)⟩
      · rcases List.mem_append.1 hr with h1 | h1
        · exact I.rng r h1
        · simp at h1; subst h1; exact ⟨n1, n2⟩
      · by_cases e : k = i
        · subst e
          subst b
          exact .inr ⟨by simp, new⟩
        · rcases I.locks r k (by omega) a b with ⟨e, hc, hle⟩ | ⟨hr, ho⟩
          · exact .inl ⟨e, hc.up (by omega), by rw [hl]; exact hle⟩
          · exact .inr ⟨by simp [hr], up r k hr ho⟩
      · rw [hl]
        rcases I.best r with h0 | ⟨k, e, hc, he⟩
        · exact .inl h0
        · exact .inr ⟨k, e, hc.up (by omega), he⟩
      · rcases List.mem_append.1 hr with h1 | h1
        · obtain ⟨k, ho⟩ := I.held r h1
          exact ⟨k, up r k h1 ho⟩
        · simp at h1
          subst h1
          exact ⟨i, new⟩
    · -- Unlock
      have hmem : N i ∈ h := by
        have hne : h ≠ [] := by intro e; simp [e] at hlast
        rw [List.getLast?_eq_some_getLast hne] at hlast
        rw [← Option.some.inj hlast]
        exact List.getLast_mem hne
      obtain ⟨k0, ho0⟩ := I.held (N i) hmem
      have hi1 : 1 ≤ i := by have := ho0.1; omega
      have hprev : K (i - 1) ≠ 2 := by
        intro e
        simp [prevLock, e] at hb
        omega
      have hd : demTo K N (i + 1) = demTo K N i := by simp only [demTo]; rw [if_neg (by omega)]; omega
      have hdr := fun r => mem_dropLast_iff (r := r) hlast I.nodup
      have hle : ∀ r, lonTo K N r i ≤ lonTo K N r (i + 1) := fun r => by
        simp only [lonTo]
        split
        · exact Int.le_max_left _ _
        · exact Int.le_refl _
      have hlo : ∀ r, r ≠ N i → lonTo K N r (i + 1) = lonTo K N r i := fun r hr => by simp only [lonTo]; rw [if_neg (fun e => hr e.2.symm)]
      have hln : lonTo K N (N i) (i + 1) = max (lonTo K N (N i) i) (demTo K N i - begTo K N (N i) i) := by simp [lonTo, k3]
      have up : ∀ r k, r ≠ N i → Opened K N r k i → Opened K N r k (i + 1) := fun r k hr ho => ho.up (fun e => hr e.2.symm) (by omega) (.inl (by
        rcases ho.2.2.2.2.2 with g | g
        · rw [hd]; exact g
        · exact absurd g hprev))
      have shut : ∀ k, Opened K N (N i) k i → Closed K N (N i) k i (i + 1) := fun k ho => ⟨ho.1, by omega, ho.2.1, ho.2.2.1, k3, rfl, ho.2.2.2.2.1⟩
      refine ⟨fun k hk => ?_, nodup_dropLast I.nodup, fun r hr => I.rng r ((hdr r).1 hr).1, fun r k hk a b => ?_, fun r => ?_, fun r hr => ?_, fun r k e hc => ?_, fun r => by have := I.lon0 r; have := hle r; omega⟩
      · by_cases e : k = i
        · subst e; exact .inr (.inr ⟨k3, (I.rng _ hmem).1, (I.rng _ hmem).2, hi1, hprev⟩)
        · exact I.steps k (by omega)
      · have hki : k < i := by
          by_cases e : k = i
          · subst e; omega
          · omega
        rcases I.locks r k hki a b with ⟨e, hc, hl⟩ | ⟨hr, ho⟩
        · exact .inl ⟨e, hc.up (by omega), by have := hle r; omega⟩
        · by_cases er : r = N i
          · subst er
            refine .inl ⟨i, shut k ho, ?_⟩
            rw [hln, ← ho.2.2.2.1]
            exact Int.le_max_right _ _
          · exact .inr ⟨(hdr r).2 ⟨hr, er⟩, up r k er ho⟩
      · by_cases er : r = N i
        · subst er
          rw [hln]
          by_cases hm : demTo K N i - begTo K N (N i) i ≤ lonTo K N (N i) i
          · rw [Int.max_eq_left hm]
            rcases I.best (N i) with h0 | ⟨k, e, hc, he⟩
            · exact .inl h0
            · exact .inr ⟨k, e, hc.up (by omega), he⟩
          · rw [Int.max_eq_right (by omega)]
            exact .inr ⟨k0, i, shut k0 ho0, by rw [ho0.2.2.2.1]⟩
        · rw [hlo r er]
          rcases I.best r with h0 | ⟨k, e, hc, he⟩
          · exact .inl h0
          · exact .inr ⟨k, e, hc.up (by omega), he⟩
      · have hr2 := (hdr r).1 hr
        obtain ⟨k, ho⟩ := I.held r hr2.1
        exact ⟨k, up r k hr2.2 ho⟩
      · by_cases ee : e = i
        · subst ee
          have hrn : r = N e := hc.2.2.2.2.2.1.symm
          subst hrn
          rcases I.locks (N e) k hc.1 hc.2.2.1 hc.2.2.2.1 with ⟨e', hc', _⟩ | ⟨_, ho⟩
          · exact absurd ⟨hc'.2.2.2.2.1, hc'.2.2.2.2.2.1⟩ (hc.2.2.2.2.2.2 e' hc'.1 hc'.2.1)
          · rcases ho.2.2.2.2.2 with g | g
            · exact g
            · exact absurd g hprev
        · exact I.pos r k e ⟨hc.1, by have := hc.2.1; omega, hc.2.2⟩

theorem progB_inv {K N : Nat → Int} {len : Nat} (h : progB K N len = true) : 1 ≤ len ∧ len ≤ 16 ∧ K (len - 1) = 1 ∧ ProgInv K N len [] := by
  simp only [progB, decide_eq_true_eq] at h
  exact ⟨h.1, h.2.1, h.2.2.1, prog_inv K N len [] h.2.2.2⟩

/-- A program's demand is at least one. -/
theorem dem_pos {K N : Nat → Int} {len : Nat} (h : progB K N len = true) : 1 ≤ demTo K N len ∧ demTo K N len ≤ 1600 := by
  obtain ⟨h1, h2, h3, I⟩ := progB_inv h
  have hle := demTo_le I.steps
  have hm := demTo_mono I.steps 0 (len - 1) (by omega) (by omega)
  have hs := I.steps (len - 1) (by omega)
  have e : demTo K N len = demTo K N (len - 1) + N (len - 1) := by
    have : len = (len - 1) + 1 := by omega
    conv => lhs; rw [this]
    simp only [demTo]
    rw [if_pos h3]
  have h0 : demTo K N 0 = 0 := rfl
  rcases hs with ⟨_, a, b⟩ | ⟨a, _⟩ | ⟨a, _⟩
  · omega
  · omega
  · omega

/-- The length of the section whose steps begin at i0, by the first Unlock of r from there on. -/
def IsLen (K N : Nat → Int) (len : Nat) (r : Int) (i0 : Nat) (s : Int) : Prop :=
  (∃ e, i0 ≤ e ∧ e < len ∧ K e = 3 ∧ N e = r ∧ (∀ t, i0 ≤ t → t < e → ¬ (K t = 3 ∧ N t = r)) ∧ s = demTo K N e - demTo K N i0) ∨
  ((∀ t, i0 ≤ t → t < len → ¬ (K t = 3 ∧ N t = r)) ∧ s = demTo K N len - demTo K N i0)

def Locks (K N : Nat → Int) (len : Nat) (r : Int) : Prop := ∃ k, k < len ∧ K k = 2 ∧ N k = r

theorem isLen_closed {K N : Nat → Int} {len k : Nat} {s : Int} (h : progB K N len = true) (hk : k < len) (h2 : K k = 2) (hl : IsLen K N len (N k) (k + 1) s) : ∃ e, Closed K N (N k) k e len ∧ s = demTo K N e - demTo K N k ∧ s ≤ lonTo K N (N k) len := by
  obtain ⟨_, _, _, I⟩ := progB_inv h
  have hd : demTo K N (k + 1) = demTo K N k := by simp only [demTo]; rw [if_neg (by omega)]; omega
  rcases I.locks (N k) k hk h2 rfl with ⟨e, hc, hle⟩ | ⟨hr, _⟩
  · rcases hl with ⟨e', a, b, c, d, f, g⟩ | ⟨f, _⟩
    · have : e' = e := by
        rcases Nat.lt_trichotomy e' e with g1 | g1 | g1
        · exact absurd ⟨c, d⟩ (hc.2.2.2.2.2.2 e' (by omega) g1)
        · exact g1
        · exact absurd ⟨hc.2.2.2.2.1, hc.2.2.2.2.2.1⟩ (f e (by have := hc.1; omega) g1)
      subst this
      exact ⟨e', hc, by rw [g, hd], by rw [g, hd]; exact hle⟩
    · exact absurd ⟨hc.2.2.2.2.1, hc.2.2.2.2.2.1⟩ (f e (by have := hc.1; omega) hc.2.1)
  · cases hr

theorem lon_le {K N : Nat → Int} {len : Nat} {r : Int} (h : progB K N len = true) : 0 ≤ lonTo K N r len ∧ lonTo K N r len ≤ 1600 := by
  obtain ⟨_, _, _, I⟩ := progB_inv h
  refine ⟨I.lon0 r, ?_⟩
  rcases I.best r with h0 | ⟨k, e, hc, he⟩
  · omega
  · have h1 := demTo_mono I.steps e len (by have := hc.2.1; omega) (Nat.le_refl _)
    have h2 := demTo_mono I.steps 0 k (by omega) (by have := hc.1; have := hc.2.1; omega)
    have h3 := (dem_pos h).2
    have h0 : demTo K N 0 = 0 := rfl
    omega

/-- The greatest of some numbers, at least 0. -/
def IsMax (S : Int → Prop) (v : Int) : Prop := 0 ≤ v ∧ (v = 0 ∨ S v) ∧ ∀ s, S s → s ≤ v

section
variable {K N : Nat → Nat → Int} {L : Nat → Nat} {Z : Nat → Int} {n i : Nat}

def IsCeil (K N : Nat → Nat → Int) (L : Nat → Nat) (Z : Nat → Int) (n : Nat) (r c : Int) : Prop :=
  (c = -1 ∨ ∃ t, t < n ∧ Locks (K t) (N t) (L t) r ∧ c = Z t) ∧ ∀ t, t < n → Locks (K t) (N t) (L t) r → Z t ≤ c

def SRef (K N : Nat → Nat → Int) (L : Nat → Nat) (Z : Nat → Int) (n i : Nat) (s : Int) : Prop :=
  ∃ j k, j < n ∧ Z j < Z i ∧ k < L j ∧ K j k = 2 ∧ (∃ c, IsCeil K N L Z n (N j k) c ∧ Z i ≤ c) ∧ IsLen (K j) (N j) (L j) (N j k) (k + 1) s

end

/-! ### Interference, and the least number that fits -/

def ceilD (a p : Int) : Int := (a + p - 1) / p

theorem ceilD_ref {a p : Int} (_ : 0 ≤ a) (hp : 1 ≤ p) : ceilD a p = a / p + (if 0 < a % p then 1 else 0) := by
  unfold ceilD
  have e := Int.mul_ediv_add_emod a p
  have m0 := Int.emod_nonneg a (show p ≠ 0 by omega)
  have m1 := Int.emod_lt_of_pos a (show 0 < p by omega)
  have h : a + p - 1 = (a % p + p - 1) + p * (a / p) := by omega
  rw [h, Int.add_mul_ediv_left _ _ (show p ≠ 0 by omega)]
  by_cases g : 0 < a % p
  · rw [if_pos g]
    have : (a % p + p - 1) / p = 1 := by
      rw [show a % p + p - 1 = (a % p - 1) + p * 1 by omega, Int.add_mul_ediv_left _ _ (show p ≠ 0 by omega), Int.ediv_eq_zero_of_lt (by omega) (by omega)]
      rfl
    omega
  · rw [if_neg g]
    have : (a % p + p - 1) / p = 0 := Int.ediv_eq_zero_of_lt (by omega) (by omega)
    omega

theorem ceilD_nonneg {a p : Int} (ha : 0 ≤ a) (hp : 1 ≤ p) : 0 ≤ ceilD a p := by
  unfold ceilD
  exact Int.ediv_nonneg (by omega) (by omega)

theorem ceilD_le {a p : Int} (ha : 0 ≤ a) (hp : 1 ≤ p) : ceilD a p ≤ a := by
  unfold ceilD
  by_cases h : a = 0
  · subst h
    rw [Int.ediv_eq_zero_of_lt (by omega) (by omega)]
    exact Int.le_refl _
  · have : (a + p - 1) / p ≤ (a * p) / p := Int.ediv_le_ediv (by omega) (by
      have h1 : (a - 1) * 1 ≤ (a - 1) * p := Int.mul_le_mul_of_nonneg_left hp (by omega)
      have h2 : (a - 1) * p = a * p - p := by rw [Int.sub_mul]; omega
      omega)
    rw [Int.mul_ediv_cancel _ (show p ≠ 0 by omega)] at this
    exact this

/-- How many ticks the tasks that are higher ask for within w, those below m counted. -/
def inter (P J dm : Nat → Int) (hi : Nat → Bool) (w : Int) : Nat → Int
  | 0 => 0
  | m + 1 => inter P J dm hi w m + (if hi m = true then ceilD (w + J m) (P m) * dm m else 0)

section
variable {P J dm : Nat → Int} {hi : Nat → Bool} {n : Nat}

def TimesOk (P J dm : Nat → Int) (n : Nat) : Prop := ∀ j, j < n → 1 ≤ P j ∧ 0 ≤ J j ∧ J j ≤ 10000 ∧ 0 ≤ dm j ∧ dm j ≤ 1600

theorem inter_bound (h : TimesOk P J dm n) {w : Int} (hw : 0 ≤ w) (hw2 : w ≤ 20000) : ∀ m, m ≤ n → 0 ≤ inter P J dm hi w m ∧ inter P J dm hi w m ≤ 48000000 * m := by
  intro m hm
  induction m with
  | zero => simp [inter]
  | succ m ih =>
    have h1 := ih (by omega)
    obtain ⟨p1, j0, j1, d0, d1⟩ := h m (by omega)
    simp only [inter]
    by_cases g : hi m = true
    · rw [if_pos g]
      have a0 := ceilD_nonneg (a := w + J m) (p := P m) (by omega) p1
      have a1 := ceilD_le (a := w + J m) (p := P m) (by omega) p1
      have b0 := Int.mul_nonneg a0 d0
      have b1 : ceilD (w + J m) (P m) * dm m ≤ 30000 * 1600 := Int.mul_le_mul (by omega) d1 d0 (by omega)
      omega
    · rw [if_neg g]
      omega

/-- The bound, by the least number that fits. -/
def IsBound (f : Int → Int) (j d r : Int) : Prop :=
  (∃ w, 1 ≤ w ∧ w + j ≤ d ∧ f w = w ∧ (∀ u, 1 ≤ u → u < w → f u ≠ u) ∧ r = w + j) ∨ (r = 0 ∧ ∀ w, 1 ≤ w → w + j ≤ d → f w ≠ w)

end

/-! ### Priorities: two ways of telling them -/

theorem no_squeeze : ∀ (n : Nat) (f : Nat → Nat), (∀ k, k < n + 1 → f k < n) → ¬ (∀ a b, a < n + 1 → b < n + 1 → f a = f b → a = b) := by
  intro n
  induction n with
  | zero => intro f h _; have := h 0 (by omega); omega
  | succ n ih =>
    intro f h hinj
    refine ih (fun k => if f k = n then f (n + 1) else f k) (fun k hk => ?_) (fun a b ha hb e => ?_)
    · show (if f k = n then f (n + 1) else f k) < n
      by_cases g : f k = n
      · rw [if_pos g]
        have h1 := h (n + 1) (by omega)
        have : f (n + 1) ≠ n := fun e => by have := hinj k (n + 1) (by omega) (by omega) (by omega); omega
        omega
      · rw [if_neg g]
        have := h k (by omega)
        omega
    · have e' : (if f a = n then f (n + 1) else f a) = (if f b = n then f (n + 1) else f b) := e
      by_cases ga : f a = n <;> by_cases gb : f b = n
      · exact hinj a b (by omega) (by omega) (by omega)
      · rw [if_pos ga, if_neg gb] at e'
        have := hinj (n + 1) b (by omega) (by omega) e'
        omega
      · rw [if_neg ga, if_pos gb] at e'
        have := hinj a (n + 1) (by omega) (by omega) e'
        omega
      · rw [if_neg ga, if_neg gb] at e'
        exact hinj a b (by omega) (by omega) e'

theorem inj_surj {n : Nat} {f : Nat → Nat} (h : ∀ k, k < n → f k < n) (hinj : ∀ a b, a < n → b < n → f a = f b → a = b) : ∀ i, i < n → ∃ k, k < n ∧ f k = i := by
  intro i hi
  apply Classical.byContradiction
  intro hne
  have hmiss : ∀ k, k < n → f k ≠ i := fun k hk e => hne ⟨k, hk, e⟩
  obtain ⟨m, rfl⟩ : ∃ m, n = m + 1 := ⟨n - 1, by omega⟩
  refine no_squeeze m (fun k => if f k = m then i else f k) (fun k hk => ?_) (fun a b ha hb e => ?_)
  · show (if f k = m then i else f k) < m
    by_cases g : f k = m
    · rw [if_pos g]
      have := hmiss k hk
      omega
    · rw [if_neg g]
      have := h k hk
      omega
  · have e' : (if f a = m then i else f a) = (if f b = m then i else f b) := e
    by_cases ga : f a = m <;> by_cases gb : f b = m
    · exact hinj a b ha hb (by omega)
    · rw [if_pos ga, if_neg gb] at e'
      exact absurd e'.symm (hmiss b hb)
    · rw [if_neg ga, if_pos gb] at e'
      exact absurd e' (hmiss a ha)
    · rw [if_neg ga, if_neg gb] at e'
      exact hinj a b ha hb e'

/-- Each of the numbers below n is among the first n of Z. -/
def OrderB (Z : Nat → Int) (n : Nat) : Prop := ∀ i, i < n → ∃ k, k < n ∧ Z k = (i : Int)
/-- The first n of Z are numbers below n, each once. -/
def PrioB (Z : Nat → Int) (n : Nat) : Prop := (∀ k, k < n → 0 ≤ Z k ∧ Z k < n) ∧ ∀ a b, a < n → b < n → Z a = Z b → a = b

theorem order_iff (Z : Nat → Int) (n : Nat) : OrderB Z n ↔ PrioB Z n := by
  constructor
  · intro h
    have hg : ∃ g : Nat → Nat, ∀ i, i < n → g i < n ∧ Z (g i) = (i : Int) := by
      refine ⟨fun i => if hi : i < n then Classical.choose (h i hi) else 0, fun i hi => ?_⟩
      simp only [dif_pos hi]
      exact Classical.choose_spec (h i hi)
    obtain ⟨g, hg⟩ := hg
    have hs := inj_surj (f := g) (fun k hk => (hg k hk).1) (fun a b ha hb e => by
      have h1 := (hg a ha).2
      have h2 := (hg b hb).2
      rw [e] at h1
      omega)
    have inv : ∀ k, k < n → ∃ i, i < n ∧ g i = k ∧ Z k = (i : Int) := fun k hk => by
      obtain ⟨i, hi, e⟩ := hs k hk
      exact ⟨i, hi, e, by rw [← e]; exact (hg i hi).2⟩
    refine ⟨fun k hk => ?_, fun a b ha hb e => ?_⟩
    · obtain ⟨i, hi, _, e⟩ := inv k hk
      omega
    · obtain ⟨i, hi, ea, za⟩ := inv a ha
      obtain ⟨j, hj, eb, zb⟩ := inv b hb
      have : i = j := by omega
      subst this
      omega
  · rintro ⟨h1, h2⟩ i hi
    obtain ⟨k, hk, e⟩ := inj_surj (f := fun k => (Z k).toNat) (fun k hk => by have := h1 k hk; show (Z k).toNat < n; omega) (fun a b ha hb e => by
      have ha' := h1 a ha
      have hb' := h1 b hb
      have e' : (Z a).toNat = (Z b).toNat := e
      exact h2 a b ha hb (by omega)) i hi
    have e' : (Z k).toNat = i := e
    have := h1 k hk
    exact ⟨k, hk, by omega⟩

end Go.Proofs.YtdabcflpcklfiaaGreat.Cad
