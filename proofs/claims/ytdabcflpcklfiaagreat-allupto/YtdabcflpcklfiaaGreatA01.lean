import Derived.Test.YtdabcflpcklfiaaGreatProg
import Derived.WalkKit
import Derived.WalkSpells
import Derived.WalkLawsBesides
import Derived.BigQuiet
import Derived.Deep.QuietTactic
import Derived.Deep.OwnRows
import Derived.Deep.RegionWith
import Derived.Maps.OwnSet
import Derived.Maps.Views
import Derived.DeepKeys4
import Derived.Laws.Rows
/- Plain mathematics: what a program of steps, its times and a set of tasks come to, as functions on numbers. -/
namespace Go.Proofs.YtdabcflpcklfiaaGreat.Cad

/-- What is held behind one step, where it may be. -/
def stepF (h : List Int) (behind : Bool) (k n : Int) : Option (List Int) :=
  if k = 1 then (if 1 ≤ n ∧ n ≤ 100 then some h else none)
  else if k = 2 then (if 0 ≤ n ∧ n ≤ 7 ∧ n ∉ h then some (h ++ [n]) else none)
  else if k = 3 then (if behind = false ∧ h.getLast? = some n then some h.dropLast else none)
  else none

def prevLock (K : Nat → Int) (i : Nat) : Bool := decide (0 < i ∧ K (i - 1) = 2)

def stTo (K N : Nat → Int) : Nat → Option (List Int)
  | 0 => some []
  | i + 1 => (stTo K N i).bind fun h => stepF h (prevLock K i) (K i) (N i)

def progB (K N : Nat → Int) (len : Nat) : Bool :=
  decide (1 ≤ len ∧ len ≤ 16 ∧ K (len - 1) = 1 ∧ stTo K N len = some [])

theorem stTo_none (K N : Nat → Int) (i j : Nat) (h : i ≤ j) (hn : stTo K N i = none) : stTo K N j = none := by
  induction j with
  | zero => obtain rfl : i = 0 := by omega
            exact hn
  | succ j ih =>
    by_cases e : i = j + 1
    · subst e; exact hn
    · simp [stTo, ih (by omega)]

theorem stTo_len (K N : Nat → Int) : ∀ (i : Nat) (h : List Int), stTo K N i = some h → h.length ≤ i := by
  intro i
  induction i with
  | zero => intro h hh; simp [stTo] at hh; subst hh; simp
  | succ i ih =>
    intro h hh
    simp only [stTo, Option.bind_eq_some_iff] at hh
    obtain ⟨g, hg, hs⟩ := hh
    have := ih g hg
    unfold stepF at hs
    split at hs
    · split at hs
      · cases hs; omega
      · cases hs
    · split at hs
      · split at hs
        · cases hs; simp; omega
        · cases hs
      · split at hs
        · split at hs
          · cases hs; simp; omega
          · cases hs
        · cases hs

theorem stTo_bad {K N : Nat → Int} {i len : Nat} {h : List Int} (hi : i < len) (hs : stTo K N i = some h) (hb : stepF h (prevLock K i) (K i) (N i) = none) : progB K N len = false := by
  have h1 : stTo K N (i + 1) = none := by simp [stTo, hs, hb]
  have h2 := stTo_none K N (i + 1) len (by omega) h1
  simp [progB, h2]

def hasB (Z : Nat → Int) (len : Nat) (n : Int) : Bool := decide (∃ i, i < len ∧ Z i = n)

theorem hasB_yes {Z : Nat → Int} {len k : Nat} {n : Int} (hk : k < len) (h : (Z k == n) = true) : hasB Z len n = true := by
  simp at h; simp [hasB]; exact ⟨k, hk, h⟩

theorem hasB_no {Z : Nat → Int} {len : Nat} {n : Int} (h : ∀ j, j < len → Z j ≠ n) : hasB Z len n = false := by
  simp [hasB]; exact h

theorem hasB_list (l : List Int) (n : Int) : hasB (fun i => l.getD i 0) l.length n = decide (n ∈ l) := by
  unfold hasB
  rw [decide_eq_decide]
  constructor
  · rintro ⟨i, hi, h⟩
    have e : l.getD i 0 = l[i] := by simp [List.getD, hi]
    rw [← h]; show l.getD i 0 ∈ l; rw [e]
    exact List.getElem_mem hi
  · intro h
    obtain ⟨i, hi, h⟩ := List.mem_iff_getElem.1 h
    exact ⟨i, hi, by simp [List.getD, hi, h]⟩

theorem stTo_step {K N : Nat → Int} {i : Nat} {h h' : List Int} (hs : stTo K N i = some h) (hb : stepF h (prevLock K i) (K i) (N i) = some h') : stTo K N (i + 1) = some h' := by
  simp [stTo, hs, hb]

theorem prevLock_succ (K : Nat → Int) (k : Nat) : prevLock K (k + 1) = (K k == 2) := by
  rw [Bool.eq_iff_iff]; simp [prevLock]

theorem progB_end2 {K N : Nat → Int} {len : Nat} {h : List Int} (h1 : 1 ≤ len) (h2 : len ≤ 16) (hs : stTo K N len = some h) (h0 : h = []) : progB K N len = (K (len - 1) == 1) := by
  rw [Bool.eq_iff_iff]
  subst h0
  simp [progB, h1, h2, hs]

theorem progB_end3 {K N : Nat → Int} {len : Nat} {h : List Int} (hs : stTo K N len = some h) (h0 : h ≠ []) : progB K N len = false := by
  simp [progB, hs, h0]

theorem stepF_compute {h : List Int} {b : Bool} {n : Int} (h1 : 1 ≤ n) (h2 : n ≤ 100) : stepF h b 1 n = some h := by simp [stepF, h1, h2]
theorem stepF_compute_no {h : List Int} {b : Bool} {n : Int} (h1 : ¬ (1 ≤ n ∧ n ≤ 100)) : stepF h b 1 n = none := by unfold stepF; rw [if_pos rfl, if_neg h1]
theorem stepF_lock {h : List Int} {b : Bool} {n : Int} (h1 : 0 ≤ n) (h2 : n ≤ 7) (h3 : n ∉ h) : stepF h b 2 n = some (h ++ [n]) := by simp [stepF, h1, h2, h3]
theorem stepF_lock_no {h : List Int} {b : Bool} {n : Int} (h1 : ¬ (0 ≤ n ∧ n ≤ 7 ∧ n ∉ h)) : stepF h b 2 n = none := by unfold stepF; rw [if_neg (by omega), if_pos rfl, if_neg h1]
theorem stepF_unlock {h : List Int} {n : Int} (h1 : h.getLast? = some n) : stepF h false 3 n = some h.dropLast := by simp [stepF, h1]
theorem stepF_unlock_no {h : List Int} {b : Bool} {n : Int} (h1 : ¬ (b = false ∧ h.getLast? = some n)) : stepF h b 3 n = none := by unfold stepF; rw [if_neg (by omega), if_neg (by omega), if_pos rfl, if_neg h1]
theorem stepF_else {h : List Int} {b : Bool} {k n : Int} (h1 : k ≠ 1) (h2 : k ≠ 2) (h3 : k ≠ 3) : stepF h b k n = none := by simp [stepF, h1, h2, h3]

theorem last_getD {h : List Int} (hn : h ≠ []) : h.getLast? = some (h.getD (h.length - 1) 0) := by
  have : 0 < h.length := List.length_pos_iff.2 hn
  rw [List.getLast?_eq_getElem?]
  simp [List.getD]
  rw [List.getElem?_eq_getElem (by omega)]
  simp

theorem progB_end {K N : Nat → Int} {len : Nat} {h : List Int} (h1 : 1 ≤ len) (h2 : len ≤ 16) (hl : K (len - 1) = 1) (hs : stTo K N len = some h) : progB K N len = ((h.length : Int) == 0) := by
  rw [Bool.eq_iff_iff]
  simp [progB, h1, h2, hl, hs]

def timesB (p d j : Int) : Bool := decide (1 ≤ p ∧ p ≤ 10000 ∧ 1 ≤ d ∧ d ≤ p ∧ 0 ≤ j ∧ j ≤ d)

def taskE (p d j : Int) (K N : Nat → Int) (len : Nat) : Int := if timesB p d j = true then (if progB K N len = true then 0 else 3) else 2

def chkFrom (E : Nat → Int) : Nat → Nat → Int × Int
  | 0, _ => (0, 0)
  | m + 1, i => if E i = 0 then chkFrom E m (i + 1) else (E i, i)

def chk (E : Nat → Int) (n : Nat) : Int × Int := chkFrom E n 0

theorem chkFrom_skip (E : Nat → Int) : ∀ (k m i : Nat), (∀ j, i ≤ j → j < i + k → E j = 0) → chkFrom E (k + m) i = chkFrom E m (i + k)
  | 0, m, i, _ => by simp
  | k + 1, m, i, h => by
    rw [show k + 1 + m = (k + m) + 1 from by omega]
    simp only [chkFrom]
    rw [if_pos (h i (Nat.le_refl _) (by omega)), chkFrom_skip E k m (i + 1) (fun j h1 h2 => h j (by omega) (by omega))]
    congr 1; omega

theorem chk_hit {E : Nat → Int} {n k : Nat} (hk : k < n) (hg : ∀ j, j < k → E j = 0) (hb : E k ≠ 0) : chk E n = (E k, (k : Int)) := by
  unfold chk
  rw [show n = k + ((n - k - 1) + 1) from by omega, chkFrom_skip E k _ 0 (fun j _ h => hg j (by omega))]
  simp [chkFrom, hb]

theorem chk_ok {E : Nat → Int} {n : Nat} (hg : ∀ j, j < n → E j = 0) : chk E n = (0, 0) := by
  unfold chk
  have := chkFrom_skip E n 0 0 (fun j _ h => hg j (by omega))
  simpa [chkFrom] using this

end Go.Proofs.YtdabcflpcklfiaaGreat.Cad

/- Plain mathematics, more: demands, sections, blocking, interference, and the least number that fits. -/
namespace Go.Proofs.YtdabcflpcklfiaaGreat.Cad

def demTo (K N : Nat → Int) : Nat → Int
  | 0 => 0
  | k + 1 => demTo K N k + (if K k = 1 then N k else 0)

def begTo (K N : Nat → Int) (r : Int) : Nat → Int
  | 0 => 0
  | k + 1 => if K k = 2 ∧ N k = r then demTo K N k else begTo K N r k

def lonTo (K N : Nat → Int) (r : Int) : Nat → Int
  | 0 => 0
  | k + 1 => if K k = 3 ∧ N k = r then max (lonTo K N r k) (demTo K N k - begTo K N r k) else lonTo K N r k

/-- What may stand at one place of a program that may be. -/
def StepOk (K N : Nat → Int) (k : Nat) : Prop :=
  (K k = 1 ∧ 1 ≤ N k ∧ N k ≤ 100) ∨ (K k = 2 ∧ 0 ≤ N k ∧ N k ≤ 7) ∨ (K k = 3 ∧ 0 ≤ N k ∧ N k ≤ 7 ∧ 1 ≤ k ∧ K (k - 1) ≠ 2)

theorem stepF_some {h h' : List Int} {b : Bool} {k n : Int} (hs : stepF h b k n = some h') :
    (k = 1 ∧ 1 ≤ n ∧ n ≤ 100 ∧ h' = h) ∨ (k = 2 ∧ 0 ≤ n ∧ n ≤ 7 ∧ n ∉ h ∧ h' = h ++ [n]) ∨ (k = 3 ∧ b = false ∧ h.getLast? = some n ∧ h' = h.dropLast) := by
  unfold stepF at hs
  by_cases h1 : k = 1
  · rw [if_pos h1] at hs
    by_cases c : 1 ≤ n ∧ n ≤ 100
    · rw [if_pos c] at hs; exact .inl ⟨h1, c.1, c.2, (Option.some.inj hs).symm⟩
    · rw [if_neg c] at hs; cases hs
  · rw [if_neg h1] at hs
    by_cases h2 : k = 2
    · rw [if_pos h2] at hs
      by_cases c : 0 ≤ n ∧ n ≤ 7 ∧ n ∉ h
      · rw [if_pos c] at hs; exact .inr (.inl ⟨h2, c.1, c.2.1, c.2.2, (Option.some.inj hs).symm⟩)
      · rw [if_neg c] at hs; cases hs
    · rw [if_neg h2] at hs
      by_cases h3 : k = 3
      · rw [if_pos h3] at hs
        by_cases c : b = false ∧ h.getLast? = some n
        · rw [if_pos c] at hs; exact .inr (.inr ⟨h3, c.1, c.2, (Option.some.inj hs).symm⟩)
        · rw [if_neg c] at hs; cases hs
      · rw [if_neg h3] at hs; cases hs

/-- A section of r that is closed below i: its Lock at k, its Unlock at e. -/
def Closed (K N : Nat → Int) (r : Int) (k e i : Nat) : Prop :=
  k < e ∧ e < i ∧ K k = 2 ∧ N k = r ∧ K e = 3 ∧ N e = r ∧ ∀ t, k < t → t < e → ¬ (K t = 3 ∧ N t = r)

/-- A section of r that is open at i. -/
def Opened (K N : Nat → Int) (r : Int) (k i : Nat) : Prop :=
  k < i ∧ K k = 2 ∧ N k = r ∧ begTo K N r i = demTo K N k ∧ (∀ t, k < t → t < i → ¬ (K t = 3 ∧ N t = r)) ∧ (demTo K N k < demTo K N i ∨ K (i - 1) = 2)

structure ProgInv (K N : Nat → Int) (i : Nat) (h : List Int) : Prop where
  steps : ∀ k, k < i → StepOk K N k
  nodup : h.Nodup
  rng : ∀ r, r ∈ h → 0 ≤ r ∧ r ≤ 7
  locks : ∀ r k, k < i → K k = 2 → N k = r → (∃ e, Closed K N r k e i ∧ demTo K N e - demTo K N k ≤ lonTo K N r i) ∨ (r ∈ h ∧ Opened K N r k i)
  best : ∀ r, lonTo K N r i = 0 ∨ ∃ k e, Closed K N r k e i ∧ lonTo K N r i = demTo K N e - demTo K N k
  held : ∀ r, r ∈ h → ∃ k, Opened K N r k i
  pos : ∀ r k e, Closed K N r k e i → demTo K N k < demTo K N e
  lon0 : ∀ r, 0 ≤ lonTo K N r i

theorem demTo_mono {K N : Nat → Int} {i : Nat} (h : ∀ k, k < i → StepOk K N k) : ∀ a b, a ≤ b → b ≤ i → demTo K N a ≤ demTo K N b := by
  intro a b hab hb
  induction b with
  | zero => obtain rfl : a = 0 := by omega
            exact Int.le_refl _
  | succ b ih =>
    by_cases e : a = b + 1
    · subst e; exact Int.le_refl _
    · have h1 := ih (by omega) (by omega)
      have h2 := h b (by omega)
      simp only [demTo]
      rcases h2 with ⟨k1, _, _⟩ | ⟨k1, _, _⟩ | ⟨k1, _⟩
      · rw [if_pos k1]; omega
      · rw [if_neg (by omega)]; omega
      · rw [if_neg (by omega)]; omega

theorem demTo_le {K N : Nat → Int} {i : Nat} (h : ∀ k, k < i → StepOk K N k) : demTo K N i ≤ 100 * i := by
  induction i with
  | zero => simp [demTo]
  | succ i ih =>
    have h1 := ih (fun k hk => h k (by omega))
    have h2 := h i (by omega)
    simp only [demTo]
    rcases h2 with ⟨k1, _, _⟩ | ⟨k1, _, _⟩ | ⟨k1, _⟩
    · rw [if_pos k1]; omega
    · rw [if_neg (by omega)]; omega
    · rw [if_neg (by omega)]; omega

theorem Closed.up {K N : Nat → Int} {r : Int} {k e i j : Nat} (h : Closed K N r k e i) (hij : i ≤ j) : Closed K N r k e j :=
  ⟨h.1, Nat.lt_of_lt_of_le h.2.1 hij, h.2.2⟩

theorem Closed.down {K N : Nat → Int} {r : Int} {k e i : Nat} (h : Closed K N r k e (i + 1)) (hne : ¬ (K i = 3 ∧ N i = r)) : Closed K N r k e i := by
  obtain ⟨a, b, c, d, f, g, t⟩ := h
  refine ⟨a, ?_, c, d, f, g, t⟩
  by_cases e1 : e = i
  · subst e1; exact absurd ⟨f, g⟩ hne
  · omega

theorem Opened.up {K N : Nat → Int} {r : Int} {k i : Nat} (h : Opened K N r k i) (hne : ¬ (K i = 3 ∧ N i = r)) (hb : ¬ (K i = 2 ∧ N i = r)) (hd : demTo K N k < demTo K N (i + 1) ∨ K i = 2) : Opened K N r k (i + 1) := by
  obtain ⟨a, b, c, d, t, _⟩ := h
  refine ⟨by omega, b, c, ?_, fun u h1 h2 => ?_, hd⟩
  · simp only [begTo]; rw [if_neg hb]; exact d
  · by_cases e : u = i
    · subst e; exact hne
    · exact t u h1 (by omega)

theorem mem_dropLast_iff {h : List Int} {n r : Int} (hl : h.getLast? = some n) (hn : h.Nodup) : r ∈ h.dropLast ↔ (r ∈ h ∧ r ≠ n) := by
  have hne : h ≠ [] := by intro e; simp [e] at hl
  have e := List.dropLast_concat_getLast hne
  have hlast : h.getLast hne = n := by
    rw [List.getLast?_eq_some_getLast hne] at hl
    exact Option.some.inj hl
  rw [hlast] at e
  rw [← e] at hn
  have hd := List.nodup_append.1 hn
  constructor
  · intro hr
    refine ⟨by rw [← e]; simp [hr], fun er => ?_⟩
    subst er
    exact hd.2.2 r hr r (by simp) rfl
  · rintro ⟨hr, hrn⟩
    rw [← e] at hr
    rcases List.mem_append.1 hr with h1 | h1
    · exact h1
    · simp at h1; exact absurd h1 hrn

theorem nodup_dropLast {h : List Int} (hn : h.Nodup) : h.dropLast.Nodup := List.Sublist.nodup (List.dropLast_sublist h) hn

theorem prog_inv (K N : Nat → Int) : ∀ (i : Nat) (h : List Int), stTo K N i = some h → ProgInv K N i h := by
  intro i
  induction i with
  | zero =>
    intro h hh
    simp [stTo] at hh
    subst hh
    exact ⟨fun k hk => by omega, by simp, fun r hr => by simp at hr, fun r k hk => by omega, fun r => .inl rfl, fun r hr => by simp at hr, fun r k e hc => by have := hc.2.1; omega, fun r => Int.le_refl _⟩
  | succ i ih =>
    intro h' hh
    simp only [stTo, Option.bind_eq_some_iff] at hh
    obtain ⟨h, hst, hs⟩ := hh
    have I := ih h hst
    have hmono := fun a => demTo_mono I.steps a i
    rcases stepF_some hs with ⟨k1, n1, n2, rfl⟩ | ⟨k2, n1, n2, hnin, rfl⟩ | ⟨k3, hb, hlast, rfl⟩
    · -- Compute
      have hd : demTo K N (i + 1) = demTo K N i + N i := by simp only [demTo]; rw [if_pos k1]
      have hl : ∀ r, lonTo K N r (i + 1) = lonTo K N r i := fun r => by simp only [lonTo]; rw [if_neg (by omega)]
      have up : ∀ r k, Opened K N r k i → Opened K N r k (i + 1) := fun r k ho => ho.up (by omega) (by omega) (.inl (by have := hmono k (by have := ho.1; omega) (Nat.le_refl _); omega))
      refine ⟨fun k hk => ?_, I.nodup, I.rng, fun r k hk a b => ?_, fun r => ?_, fun r hr => ?_, fun r k e hc => I.pos r k e (hc.down (by omega)), fun r => by rw [hl]; exact I.lon0 r⟩
      · by_cases e : k = i
        · subst e; exact .inl ⟨k1, n1, n2⟩
        · exact I.steps k (by omega)
      · have hki : k < i := by
          by_cases e : k = i
          · subst e; omega
          · omega
        rcases I.locks r k hki a b with ⟨e, hc, hle⟩ | ⟨hr, ho⟩
        · exact .inl ⟨e, hc.up (by omega), by rw [hl]; exact hle⟩
        · exact .inr ⟨hr, up r k ho⟩
      · rw [hl]
        rcases I.best r with h0 | ⟨k, e, hc, he⟩
        · exact .inl h0
        · exact .inr ⟨k, e, hc.up (by omega), he⟩
      · obtain ⟨k, ho⟩ := I.held r hr
        exact ⟨k, up r k ho⟩
    · -- Lock
      have hd : demTo K N (i + 1) = demTo K N i := by simp only [demTo]; rw [if_neg (by omega)]; omega
      have hl : ∀ r, lonTo K N r (i + 1) = lonTo K N r i := fun r => by simp only [lonTo]; rw [if_neg (by omega)]
      have up : ∀ r k, r ∈ h → Opened K N r k i → Opened K N r k (i + 1) := fun r k hr ho => ho.up (by omega) (fun e => hnin (by rw [e.2]; exact hr)) (.inr k2)
      have new : Opened K N (N i) i (i + 1) := ⟨by omega, k2, rfl, by simp [begTo, k2], fun t h1 h2 => by omega, .inr k2⟩
      refine ⟨fun k hk => ?_, ?_, fun r hr => ?_, fun r k hk a b => ?_, fun r => ?_, fun r hr => ?_, fun r k e hc => I.pos r k e (hc.down (by omega)), fun r => by rw [hl]; exact I.lon0 r⟩
      · by_cases e : k = i
        · subst e; exact .inr (.inl ⟨k2, n1, n2⟩)
        · exact I.steps k (by omega)
      · rw [List.nodup_append]
        exact ⟨I.nodup, by simp, fun a ha b hb => by simp at hb; subst hb; exact fun e => hnin (e ▸ ha)⟩
      · rcases List.mem_append.1 hr with h1 | h1
        · exact I.rng r h1
        · simp at h1; subst h1; exact ⟨n1, n2⟩
      · by_cases e : k = i
        · subst e
          subst b
          exact .inr ⟨by simp, new⟩
        · rcases I.locks r k (by omega) a b with ⟨e, hc, hle⟩ | ⟨hr, ho⟩
          · exact .inl ⟨e, hc.up (by omega), by rw [hl]; exact hle⟩
          · exact .inr ⟨by simp [hr], up r k hr ho⟩
      · rw [hl]
        rcases I.best r with h0 | ⟨k, e, hc, he⟩
        · exact .inl h0
        · exact .inr ⟨k, e, hc.up (by omega), he⟩
      · rcases List.mem_append.1 hr with h1 | h1
        · obtain ⟨k, ho⟩ := I.held r h1
          exact ⟨k, up r k h1 ho⟩
        · simp at h1
          subst h1
          exact ⟨i, new⟩
    · -- Unlock
      have hmem : N i ∈ h := by
        have hne : h ≠ [] := by intro e; simp [e] at hlast
        rw [List.getLast?_eq_some_getLast hne] at hlast
        rw [← Option.some.inj hlast]
        exact List.getLast_mem hne
      obtain ⟨k0, ho0⟩ := I.held (N i) hmem
      have hi1 : 1 ≤ i := by have := ho0.1; omega
      have hprev : K (i - 1) ≠ 2 := by
        intro e
        simp [prevLock, e] at hb
        omega
      have hd : demTo K N (i + 1) = demTo K N i := by simp only [demTo]; rw [if_neg (by omega)]; omega
      have hdr := fun r => mem_dropLast_iff (r := r) hlast I.nodup
      have hle : ∀ r, lonTo K N r i ≤ lonTo K N r (i + 1) := fun r => by
        simp only [lonTo]
        split
        · exact Int.le_max_left _ _
        · exact Int.le_refl _
      have hlo : ∀ r, r ≠ N i → lonTo K N r (i + 1) = lonTo K N r i := fun r hr => by simp only [lonTo]; rw [if_neg (fun e => hr e.2.symm)]
      have hln : lonTo K N (N i) (i + 1) = max (lonTo K N (N i) i) (demTo K N i - begTo K N (N i) i) := by simp [lonTo, k3]
      have up : ∀ r k, r ≠ N i → Opened K N r k i → Opened K N r k (i + 1) := fun r k hr ho => ho.up (fun e => hr e.2.symm) (by omega) (.inl (by
        rcases ho.2.2.2.2.2 with g | g
        · rw [hd]; exact g
        · exact absurd g hprev))
      have shut : ∀ k, Opened K N (N i) k i → Closed K N (N i) k i (i + 1) := fun k ho => ⟨ho.1, by omega, ho.2.1, ho.2.2.1, k3, rfl, ho.2.2.2.2.1⟩
      refine ⟨fun k hk => ?_, nodup_dropLast I.nodup, fun r hr => I.rng r ((hdr r).1 hr).1, fun r k hk a b => ?_, fun r => ?_, fun r hr => ?_, fun r k e hc => ?_, fun r => by have := I.lon0 r; have := hle r; omega⟩
      · by_cases e : k = i
        · subst e; exact .inr (.inr ⟨k3, (I.rng _ hmem).1, (I.rng _ hmem).2, hi1, hprev⟩)
        · exact I.steps k (by omega)
      · have hki : k < i := by
          by_cases e : k = i
          · subst e; omega
          · omega
        rcases I.locks r k hki a b with ⟨e, hc, hl⟩ | ⟨hr, ho⟩
        · exact .inl ⟨e, hc.up (by omega), by have := hle r; omega⟩
        · by_cases er : r = N i
          · subst er
            refine .inl ⟨i, shut k ho, ?_⟩
            rw [hln, ← ho.2.2.2.1]
            exact Int.le_max_right _ _
          · exact .inr ⟨(hdr r).2 ⟨hr, er⟩, up r k er ho⟩
      · by_cases er : r = N i
        · subst er
          rw [hln]
          by_cases hm : demTo K N i - begTo K N (N i) i ≤ lonTo K N (N i) i
          · rw [Int.max_eq_left hm]
            rcases I.best (N i) with h0 | ⟨k, e, hc, he⟩
            · exact .inl h0
            · exact .inr ⟨k, e, hc.up (by omega), he⟩
          · rw [Int.max_eq_right (by omega)]
            exact .inr ⟨k0, i, shut k0 ho0, by rw [ho0.2.2.2.1]⟩
        · rw [hlo r er]
          rcases I.best r with h0 | ⟨k, e, hc, he⟩
          · exact .inl h0
          · exact .inr ⟨k, e, hc.up (by omega), he⟩
      · have hr2 := (hdr r).1 hr
        obtain ⟨k, ho⟩ := I.held r hr2.1
        exact ⟨k, up r k hr2.2 ho⟩
      · by_cases ee : e = i
        · subst ee
          have hrn : r = N e := hc.2.2.2.2.2.1.symm
          subst hrn
          rcases I.locks (N e) k hc.1 hc.2.2.1 hc.2.2.2.1 with ⟨e', hc', _⟩ | ⟨_, ho⟩
          · exact absurd ⟨hc'.2.2.2.2.1, hc'.2.2.2.2.2.1⟩ (hc.2.2.2.2.2.2 e' hc'.1 hc'.2.1)
          · rcases ho.2.2.2.2.2 with g | g
            · exact g
            · exact absurd g hprev
        · exact I.pos r k e ⟨hc.1, by have := hc.2.1; omega, hc.2.2⟩

theorem progB_inv {K N : Nat → Int} {len : Nat} (h : progB K N len = true) : 1 ≤ len ∧ len ≤ 16 ∧ K (len - 1) = 1 ∧ ProgInv K N len [] := by
  simp only [progB, decide_eq_true_eq] at h
  exact ⟨h.1, h.2.1, h.2.2.1, prog_inv K N len [] h.2.2.2⟩

/-- A program's demand is at least one. -/
theorem dem_pos {K N : Nat → Int} {len : Nat} (h : progB K N len = true) : 1 ≤ demTo K N len ∧ demTo K N len ≤ 1600 := by
  obtain ⟨h1, h2, h3, I⟩ := progB_inv h
  have hle := demTo_le I.steps
  have hm := demTo_mono I.steps 0 (len - 1) (by omega) (by omega)
  have hs := I.steps (len - 1) (by omega)
  have e : demTo K N len = demTo K N (len - 1) + N (len - 1) := by
    have : len = (len - 1) + 1 := by omega
    conv => lhs; rw [this]
    simp only [demTo]
    rw [if_pos h3]
  have h0 : demTo K N 0 = 0 := rfl
  rcases hs with ⟨_, a, b⟩ | ⟨a, _⟩ | ⟨a, _⟩
  · omega
  · omega
  · omega

/-- The length of the section whose steps begin at i0, by the first Unlock of r from there on. -/
def IsLen (K N : Nat → Int) (len : Nat) (r : Int) (i0 : Nat) (s : Int) : Prop :=
  (∃ e, i0 ≤ e ∧ e < len ∧ K e = 3 ∧ N e = r ∧ (∀ t, i0 ≤ t → t < e → ¬ (K t = 3 ∧ N t = r)) ∧ s = demTo K N e - demTo K N i0) ∨
  ((∀ t, i0 ≤ t → t < len → ¬ (K t = 3 ∧ N t = r)) ∧ s = demTo K N len - demTo K N i0)

def Locks (K N : Nat → Int) (len : Nat) (r : Int) : Prop := ∃ k, k < len ∧ K k = 2 ∧ N k = r

theorem isLen_closed {K N : Nat → Int} {len k : Nat} {s : Int} (h : progB K N len = true) (hk : k < len) (h2 : K k = 2) (hl : IsLen K N len (N k) (k + 1) s) : ∃ e, Closed K N (N k) k e len ∧ s = demTo K N e - demTo K N k ∧ s ≤ lonTo K N (N k) len := by
  obtain ⟨_, _, _, I⟩ := progB_inv h
  have hd : demTo K N (k + 1) = demTo K N k := by simp only [demTo]; rw [if_neg (by omega)]; omega
  rcases I.locks (N k) k hk h2 rfl with ⟨e, hc, hle⟩ | ⟨hr, _⟩
  · rcases hl with ⟨e', a, b, c, d, f, g⟩ | ⟨f, _⟩
    · have : e' = e := by
        rcases Nat.lt_trichotomy e' e with g1 | g1 | g1
        · exact absurd ⟨c, d⟩ (hc.2.2.2.2.2.2 e' (by omega) g1)
        · exact g1
        · exact absurd ⟨hc.2.2.2.2.1, hc.2.2.2.2.2.1⟩ (f e (by have := hc.1; omega) g1)
      subst this
      exact ⟨e', hc, by rw [g, hd], by rw [g, hd]; exact hle⟩
    · exact absurd ⟨hc.2.2.2.2.1, hc.2.2.2.2.2.1⟩ (f e (by have := hc.1; omega) hc.2.1)
  · cases hr

theorem isLen_of_closed {K N : Nat → Int} {len k e : Nat} {r : Int} (hc : Closed K N r k e len) : IsLen K N len (N k) (k + 1) (demTo K N e - demTo K N k) := by
  have h2 := hc.2.2.1
  have hd : demTo K N (k + 1) = demTo K N k := by simp only [demTo]; rw [if_neg (by omega)]; omega
  have hr : N k = r := hc.2.2.2.1
  rw [hr]
  exact .inl ⟨e, by have := hc.1; omega, hc.2.1, hc.2.2.2.2.1, hc.2.2.2.2.2.1, fun t a b => hc.2.2.2.2.2.2 t (by omega) b, by rw [hd]⟩

theorem lon_pos_iff {K N : Nat → Int} {len : Nat} {r : Int} (h : progB K N len = true) : 0 < lonTo K N r len ↔ Locks K N len r := by
  obtain ⟨_, _, _, I⟩ := progB_inv h
  constructor
  · intro hp
    rcases I.best r with h0 | ⟨k, e, hc, _⟩
    · omega
    · exact ⟨k, by have := hc.1; have := hc.2.1; omega, hc.2.2.1, hc.2.2.2.1⟩
  · rintro ⟨k, hk, h2, hr⟩
    rcases I.locks r k hk h2 hr with ⟨e, hc, hle⟩ | ⟨hh, _⟩
    · have := I.pos r k e hc; omega
    · cases hh

theorem lon_le {K N : Nat → Int} {len : Nat} {r : Int} (h : progB K N len = true) : 0 ≤ lonTo K N r len ∧ lonTo K N r len ≤ 1600 := by
  obtain ⟨_, _, _, I⟩ := progB_inv h
  refine ⟨I.lon0 r, ?_⟩
  rcases I.best r with h0 | ⟨k, e, hc, he⟩
  · omega
  · have h1 := demTo_mono I.steps e len (by have := hc.2.1; omega) (Nat.le_refl _)
    have h2 := demTo_mono I.steps 0 k (by omega) (by have := hc.1; have := hc.2.1; omega)
    have h3 := (dem_pos h).2
    have h0 : demTo K N 0 = 0 := rfl
    omega

/-- The greatest of some numbers, at least 0. -/
def IsMax (S : Int → Prop) (v : Int) : Prop := 0 ≤ v ∧ (v = 0 ∨ S v) ∧ ∀ s, S s → s ≤ v

section
variable {K N : Nat → Nat → Int} {L : Nat → Nat} {Z : Nat → Int} {n i : Nat}

def IsCeil (K N : Nat → Nat → Int) (L : Nat → Nat) (Z : Nat → Int) (n : Nat) (r c : Int) : Prop :=
  (c = -1 ∨ ∃ t, t < n ∧ Locks (K t) (N t) (L t) r ∧ c = Z t) ∧ ∀ t, t < n → Locks (K t) (N t) (L t) r → Z t ≤ c

def SRef (K N : Nat → Nat → Int) (L : Nat → Nat) (Z : Nat → Int) (n i : Nat) (s : Int) : Prop :=
  ∃ j k, j < n ∧ Z j < Z i ∧ k < L j ∧ K j k = 2 ∧ (∃ c, IsCeil K N L Z n (N j k) c ∧ Z i ≤ c) ∧ IsLen (K j) (N j) (L j) (N j k) (k + 1) s

def SCode (K N : Nat → Nat → Int) (L : Nat → Nat) (Z : Nat → Int) (n i : Nat) (s : Int) : Prop :=
  ∃ (j : Nat) (r : Int), j < n ∧ ¬ (Z i < Z j ∨ j = i) ∧ 0 ≤ r ∧ r < 8 ∧ (∃ t, t < n ∧ (Z i < Z t ∨ t = i) ∧ 0 < lonTo (K t) (N t) r (L t)) ∧ s = lonTo (K j) (N j) r (L j)

theorem exists_ceil (K N : Nat → Nat → Int) (L : Nat → Nat) (Z : Nat → Int) (r : Int) (hz : ∀ t, t < n → 0 ≤ Z t) : ∃ c, IsCeil K N L Z n r c := by
  induction n with
  | zero => exact ⟨-1, .inl rfl, fun t ht => by omega⟩
  | succ n ih =>
    obtain ⟨c, hc, hm⟩ := ih (fun t ht => hz t (by omega))
    by_cases hl : Locks (K n) (N n) (L n) r ∧ c < Z n
    · refine ⟨Z n, .inr ⟨n, by omega, hl.1, rfl⟩, fun t ht hlt => ?_⟩
      by_cases e : t = n
      · subst e; exact Int.le_refl _
      · have := hm t (by omega) hlt; omega
    · refine ⟨c, ?_, fun t ht hlt => ?_⟩
      · rcases hc with h | ⟨t, ht, h⟩
        · exact .inl h
        · exact .inr ⟨t, by omega, h⟩
      · by_cases e : t = n
        · subst e
          by_cases g : c < Z t
          · exact absurd ⟨hlt, g⟩ hl
          · omega
        · exact hm t (by omega) hlt

theorem blk_eq {b b' : Int} (hv : ∀ t, t < n → progB (K t) (N t) (L t) = true) (hi : i < n) (hz : ∀ t, t < n → 0 ≤ Z t) (hinj : ∀ s t, s < n → t < n → Z s = Z t → s = t)
    (h : IsMax (SRef K N L Z n i) b) (h' : IsMax (SCode K N L Z n i) b') : b = b' := by
  obtain ⟨h0, hs, hm⟩ := h
  obtain ⟨h0', hs', hm'⟩ := h'
  have le1 : b ≤ b' := by
    rcases hs with h | ⟨j, k, hj, hlt, hk, h2, ⟨c, hc, hge⟩, hl⟩
    · omega
    · obtain ⟨e, hcl, hbe, hle⟩ := isLen_closed (hv j hj) hk h2 hl
      have hst := (progB_inv (hv j hj)).2.2.2.steps k hk
      have hrng : 0 ≤ N j k ∧ N j k ≤ 7 := by
        rcases hst with ⟨a, _⟩ | ⟨_, a, b⟩ | ⟨a, _⟩
        · omega
        · exact ⟨a, b⟩
        · omega
      have hzi := hz i hi
      have hnr : ¬ (Z i < Z j ∨ j = i) := by
        rintro (g | g)
        · omega
        · subst g; omega
      obtain ⟨t, ht, hlk, hct⟩ : ∃ t, t < n ∧ Locks (K t) (N t) (L t) (N j k) ∧ c = Z t := by
        rcases hc.1 with g | g
        · omega
        · exact g
      have := hm' (lonTo (K j) (N j) (N j k) (L j)) ⟨j, N j k, hj, hnr, hrng.1, by omega, ⟨t, ht, by
        by_cases g : Z i < Z t
        · exact .inl g
        · exact .inr (hinj t i ht hi (by omega)), (lon_pos_iff (hv t ht)).2 hlk⟩, rfl⟩
      omega
  have le2 : b' ≤ b := by
    rcases hs' with h | ⟨j, r, hj, hnr, hr0, hr8, ⟨t, ht, htr, hlp⟩, hb⟩
    · omega
    · by_cases hz0 : lonTo (K j) (N j) r (L j) = 0
      · omega
      · rcases (progB_inv (hv j hj)).2.2.2.best r with g | ⟨k, e, hcl, he⟩
        · exact absurd g hz0
        · obtain ⟨c, hc⟩ := exists_ceil (n := n) K N L Z r hz
          have hlt : Z j < Z i := by
            rcases Int.lt_trichotomy (Z j) (Z i) with g | g | g
            · exact g
            · exact absurd (.inr (hinj j i hj hi g)) hnr
            · exact absurd (.inl g) hnr
          have hNk : N j k = r := hcl.2.2.2.1
          have hge : Z i ≤ c := by
            have := hc.2 t ht ((lon_pos_iff (hv t ht)).1 hlp)
            rcases htr with g | g
            · omega
            · subst g; exact this
          have := hm b' ⟨j, k, hj, hlt, by have := hcl.1; have := hcl.2.1; omega, hcl.2.2.1, ⟨c, by rw [hNk]; exact hc, hge⟩, by rw [hb, he]; exact isLen_of_closed hcl⟩
          exact this
  omega
end

/-! ### Interference, and the least number that fits -/

def ceilD (a p : Int) : Int := (a + p - 1) / p

theorem ceilD_ref {a p : Int} (_ : 0 ≤ a) (hp : 1 ≤ p) : ceilD a p = a / p + (if 0 < a % p then 1 else 0) := by
  unfold ceilD
  have e := Int.mul_ediv_add_emod a p
  have m0 := Int.emod_nonneg a (show p ≠ 0 by omega)
  have m1 := Int.emod_lt_of_pos a (show 0 < p by omega)
  have h : a + p - 1 = (a % p + p - 1) + p * (a / p) := by omega
  rw [h, Int.add_mul_ediv_left _ _ (show p ≠ 0 by omega)]
  by_cases g : 0 < a % p
  · rw [if_pos g]
    have : (a % p + p - 1) / p = 1 := by
      rw [show a % p + p - 1 = (a % p - 1) + p * 1 by omega, Int.add_mul_ediv_left _ _ (show p ≠ 0 by omega), Int.ediv_eq_zero_of_lt (by omega) (by omega)]
      rfl
    omega
  · rw [if_neg g]
    have : (a % p + p - 1) / p = 0 := Int.ediv_eq_zero_of_lt (by omega) (by omega)
    omega

theorem ceilD_mono {a b p : Int} (hp : 1 ≤ p) (h : a ≤ b) : ceilD a p ≤ ceilD b p := by
  unfold ceilD
  exact Int.ediv_le_ediv (by omega) (by omega)

theorem ceilD_nonneg {a p : Int} (ha : 0 ≤ a) (hp : 1 ≤ p) : 0 ≤ ceilD a p := by
  unfold ceilD
  exact Int.ediv_nonneg (by omega) (by omega)

theorem ceilD_le {a p : Int} (ha : 0 ≤ a) (hp : 1 ≤ p) : ceilD a p ≤ a := by
  unfold ceilD
  by_cases h : a = 0
  · subst h
    rw [Int.ediv_eq_zero_of_lt (by omega) (by omega)]
    exact Int.le_refl _
  · have : (a + p - 1) / p ≤ (a * p) / p := Int.ediv_le_ediv (by omega) (by
      have h1 : (a - 1) * 1 ≤ (a - 1) * p := Int.mul_le_mul_of_nonneg_left hp (by omega)
      have h2 : (a - 1) * p = a * p - p := by rw [Int.sub_mul]; omega
      omega)
    rw [Int.mul_ediv_cancel _ (show p ≠ 0 by omega)] at this
    exact this

/-- How many ticks the tasks that are higher ask for within w, those below m counted. -/
def inter (P J dm : Nat → Int) (hi : Nat → Bool) (w : Int) : Nat → Int
  | 0 => 0
  | m + 1 => inter P J dm hi w m + (if hi m = true then ceilD (w + J m) (P m) * dm m else 0)

section
variable {P J dm : Nat → Int} {hi : Nat → Bool} {n : Nat}

def TimesOk (P J dm : Nat → Int) (n : Nat) : Prop := ∀ j, j < n → 1 ≤ P j ∧ 0 ≤ J j ∧ J j ≤ 10000 ∧ 0 ≤ dm j ∧ dm j ≤ 1600

theorem inter_mono (h : TimesOk P J dm n) {w w' : Int} (hw : w ≤ w') : ∀ m, m ≤ n → inter P J dm hi w m ≤ inter P J dm hi w' m := by
  intro m hm
  induction m with
  | zero => exact Int.le_refl _
  | succ m ih =>
    have h1 := ih (by omega)
    obtain ⟨p1, j0, _, d0, _⟩ := h m (by omega)
    simp only [inter]
    by_cases g : hi m = true
    · rw [if_pos g, if_pos g]
      have := Int.mul_le_mul_of_nonneg_right (ceilD_mono (a := w + J m) (b := w' + J m) p1 (by omega)) d0
      omega
    · rw [if_neg g, if_neg g]
      omega

theorem inter_bound (h : TimesOk P J dm n) {w : Int} (hw : 0 ≤ w) (hw2 : w ≤ 20000) : ∀ m, m ≤ n → 0 ≤ inter P J dm hi w m ∧ inter P J dm hi w m ≤ 48000000 * m := by
  intro m hm
  induction m with
  | zero => simp [inter]
  | succ m ih =>
    have h1 := ih (by omega)
    obtain ⟨p1, j0, j1, d0, d1⟩ := h m (by omega)
    simp only [inter]
    by_cases g : hi m = true
    · rw [if_pos g]
      have a0 := ceilD_nonneg (a := w + J m) (p := P m) (by omega) p1
      have a1 := ceilD_le (a := w + J m) (p := P m) (by omega) p1
      have b0 := Int.mul_nonneg a0 d0
      have b1 : ceilD (w + J m) (P m) * dm m ≤ 30000 * 1600 := Int.mul_le_mul (by omega) d1 d0 (by omega)
      omega
    · rw [if_neg g]
      omega

/-- The bound, by the least number that fits. -/
def IsBound (f : Int → Int) (j d r : Int) : Prop :=
  (∃ w, 1 ≤ w ∧ w + j ≤ d ∧ f w = w ∧ (∀ u, 1 ≤ u → u < w → f u ≠ u) ∧ r = w + j) ∨ (r = 0 ∧ ∀ w, 1 ≤ w → w + j ≤ d → f w ≠ w)

theorem isBound_unique {f : Int → Int} {j d r r' : Int} (h : IsBound f j d r) (h' : IsBound f j d r') : r = r' := by
  rcases h with ⟨w, a, b, c, e, g⟩ | ⟨a, b⟩ <;> rcases h' with ⟨w', a', b', c', e', g'⟩ | ⟨a', b'⟩
  · have : w = w' := by
      rcases Int.lt_trichotomy w w' with q | q | q
      · exact absurd c (e' w a q)
      · exact q
      · exact absurd c' (e w' a' q)
    subst this
    omega
  · exact absurd c (b' w a b)
  · exact absurd c' (b w' a' b')
  · omega

/-- Going up from a number that is not above any that fits. -/
structure Up (f : Int → Int) (w : Int) : Prop where
  one : 1 ≤ w
  le : w ≤ f w
  low : ∀ u, 1 ≤ u → f u = u → w ≤ u

theorem Up.next {f : Int → Int} {w : Int} (hm : ∀ a b, a ≤ b → f a ≤ f b) (h : Up f w) : Up f (f w) :=
  ⟨by have := h.one; have := h.le; omega, hm _ _ h.le, fun u h1 hu => by have := hm w u (h.low u h1 hu); omega⟩

theorem Up.found {f : Int → Int} {w j d : Int} (h : Up f w) (hw : w + j ≤ d) (he : f w = w) : IsBound f j d (w + j) :=
  .inl ⟨w, h.one, hw, he, fun u h1 hu e => by have := h.low u h1 e; omega, rfl⟩

theorem Up.late {f : Int → Int} {w j d : Int} (h : Up f w) (hw : d < w + j) : IsBound f j d 0 :=
  .inr ⟨rfl, fun u h1 hu e => by have := h.low u h1 e; omega⟩
end

/-! ### Priorities: two ways of telling them -/

theorem no_squeeze : ∀ (n : Nat) (f : Nat → Nat), (∀ k, k < n + 1 → f k < n) → ¬ (∀ a b, a < n + 1 → b < n + 1 → f a = f b → a = b) := by
  intro n
  induction n with
  | zero => intro f h _; have := h 0 (by omega); omega
  | succ n ih =>
    intro f h hinj
    refine ih (fun k => if f k = n then f (n + 1) else f k) (fun k hk => ?_) (fun a b ha hb e => ?_)
    · show (if f k = n then f (n + 1) else f k) < n
      by_cases g : f k = n
      · rw [if_pos g]
        have h1 := h (n + 1) (by omega)
        have : f (n + 1) ≠ n := fun e => by have := hinj k (n + 1) (by omega) (by omega) (by omega); omega
        omega
      · rw [if_neg g]
        have := h k (by omega)
        omega
    · have e' : (if f a = n then f (n + 1) else f a) = (if f b = n then f (n + 1) else f b) := e
      by_cases ga : f a = n <;> by_cases gb : f b = n
      · exact hinj a b (by omega) (by omega) (by omega)
      · rw [if_pos ga, if_neg gb] at e'
        have := hinj (n + 1) b (by omega) (by omega) e'
        omega
      · rw [if_neg ga, if_pos gb] at e'
        have := hinj a (n + 1) (by omega) (by omega) e'
        omega
      · rw [if_neg ga, if_neg gb] at e'
        exact hinj a b (by omega) (by omega) e'

theorem inj_surj {n : Nat} {f : Nat → Nat} (h : ∀ k, k < n → f k < n) (hinj : ∀ a b, a < n → b < n → f a = f b → a = b) : ∀ i, i < n → ∃ k, k < n ∧ f k = i := by
  intro i hi
  apply Classical.byContradiction
  intro hne
  have hmiss : ∀ k, k < n → f k ≠ i := fun k hk e => hne ⟨k, hk, e⟩
  obtain ⟨m, rfl⟩ : ∃ m, n = m + 1 := ⟨n - 1, by omega⟩
  refine no_squeeze m (fun k => if f k = m then i else f k) (fun k hk => ?_) (fun a b ha hb e => ?_)
  · show (if f k = m then i else f k) < m
    by_cases g : f k = m
    · rw [if_pos g]
      have := hmiss k hk
      omega
    · rw [if_neg g]
      have := h k hk
      omega
  · have e' : (if f a = m then i else f a) = (if f b = m then i else f b) := e
    by_cases ga : f a = m <;> by_cases gb : f b = m
    · exact hinj a b ha hb (by omega)
    · rw [if_pos ga, if_neg gb] at e'
      exact absurd e'.symm (hmiss b hb)
    · rw [if_neg ga, if_pos gb] at e'
      exact absurd e' (hmiss a ha)
    · rw [if_neg ga, if_neg gb] at e'
      exact hinj a b ha hb e'

/-- Each of the numbers below n is among the first n of Z. -/
def OrderB (Z : Nat → Int) (n : Nat) : Prop := ∀ i, i < n → ∃ k, k < n ∧ Z k = (i : Int)
/-- The first n of Z are numbers below n, each once. -/
def PrioB (Z : Nat → Int) (n : Nat) : Prop := (∀ k, k < n → 0 ≤ Z k ∧ Z k < n) ∧ ∀ a b, a < n → b < n → Z a = Z b → a = b

theorem order_iff (Z : Nat → Int) (n : Nat) : OrderB Z n ↔ PrioB Z n := by
  constructor
  · intro h
    have hg : ∃ g : Nat → Nat, ∀ i, i < n → g i < n ∧ Z (g i) = (i : Int) := by
      refine ⟨fun i => if hi : i < n then Classical.choose (h i hi) else 0, fun i hi => ?_⟩
      simp only [dif_pos hi]
      exact Classical.choose_spec (h i hi)
    obtain ⟨g, hg⟩ := hg
    have hs := inj_surj (f := g) (fun k hk => (hg k hk).1) (fun a b ha hb e => by
      have h1 := (hg a ha).2
      have h2 := (hg b hb).2
      rw [e] at h1
      omega)
    have inv : ∀ k, k < n → ∃ i, i < n ∧ g i = k ∧ Z k = (i : Int) := fun k hk => by
      obtain ⟨i, hi, e⟩ := hs k hk
      exact ⟨i, hi, e, by rw [← e]; exact (hg i hi).2⟩
    refine ⟨fun k hk => ?_, fun a b ha hb e => ?_⟩
    · obtain ⟨i, hi, _, e⟩ := inv k hk
      omega
    · obtain ⟨i, hi, ea, za⟩ := inv a ha
      obtain ⟨j, hj, eb, zb⟩ := inv b hb
      have : i = j := by omega
      subst this
      omega
  · rintro ⟨h1, h2⟩ i hi
    obtain ⟨k, hk, e⟩ := inj_surj (f := fun k => (Z k).toNat) (fun k hk => by have := h1 k hk; show (Z k).toNat < n; omega) (fun a b ha hb e => by
      have ha' := h1 a ha
      have hb' := h1 b hb
      have e' : (Z a).toNat = (Z b).toNat := e
      exact h2 a b ha hb (by omega)) i hi
    have e' : (Z k).toNat = i := e
    have := h1 k hk
    exact ⟨k, hk, by omega⟩

end Go.Proofs.YtdabcflpcklfiaaGreat.Cad

/- Plain mathematics: the kernel as a machine of numbers: what arriving and a tick do to it. -/
namespace Go.Proofs.YtdabcflpcklfiaaGreat.Cad

/-- A job that is not done: where it stands in its program, and the numbers of its steps as they are now. -/
structure Jb where
  arr : Int
  rel : Int
  left : Int
  ord : Int
  p : Nat
  N : Nat → Int

/-- A job that is done. -/
structure Rc where
  task : Int
  arr : Int
  rel : Int
  done : Int
  left : Int
  ord : Int

/-- What of a kernel does not change: tasks, priorities, ceilings. -/
structure Sy where
  n : Nat
  P : Nat → Int
  J : Nat → Int
  Z : Nat → Int
  L : Nat → Nat
  K : Nat → Nat → Int
  N : Nat → Nat → Int
  C : Nat → Int

structure Mc where
  now : Int
  idle : Int
  arrd : Int
  done : Nat → Nat
  last : Nat → Int
  q : Nat → List Jb
  hold : Nat → Int
  kept : List Rc

def upd {α : Type} (f : Nat → α) (i : Nat) (v : α) : Nat → α := fun j => if j = i then v else f j

theorem upd_same {α : Type} (f : Nat → α) (i : Nat) (v : α) : upd f i v i = v := by simp [upd]
theorem upd_other {α : Type} (f : Nat → α) {i j : Nat} (v : α) (h : j ≠ i) : upd f i v j = f j := by simp [upd, h]

/-- The active priority, and whether something is held, as far as resource r. -/
def actTo (S : Sy) (h : Nat → Int) (t : Nat) : Nat → Int × Int
  | 0 => (S.Z t, 0)
  | r + 1 => if h r = t then (max (actTo S h t r).1 (S.C r), 1) else actTo S h t r

def rank (S : Sy) (h : Nat → Int) (t : Nat) : Int := 2 * (actTo S h t 8).1 + (actTo S h t 8).2

def readyB (m : Mc) (t : Nat) : Bool := match m.q t with
  | [] => false
  | j :: _ => decide (j.rel ≤ m.now)

/-- The task that has the tick, and its rank, of the first k. -/
def chTo (S : Sy) (m : Mc) : Nat → Int × Int
  | 0 => (-1, -1)
  | k + 1 => if readyB m k = true ∧ (chTo S m k).2 < rank S m.hold k then ((k : Int), rank S m.hold k) else chTo S m k

/-- The first step from p on that is not of kind c. -/
def skipF (K : Nat → Int) (c : Int) (L : Nat) : Nat → Nat → Nat
  | 0, p => p
  | f + 1, p => if p < L ∧ K p = c then skipF K c L f (p + 1) else p
def skip (K : Nat → Int) (c : Int) (L p : Nat) : Nat := skipF K c L (L - p) p

/-- The resources of d steps from p on go to v. -/
def setTo (N : Nat → Int) (v : Int) (h : Nat → Int) (p : Nat) : Nat → (Nat → Int)
  | 0 => h
  | d + 1 => upd (setTo N v h p d) (N (p + d)).toNat v

/-- One tick of a job of task t: who holds what, and the job. -/
def runK (K : Nat → Int) (L : Nat) (t : Nat) (h : Nat → Int) (j : Jb) : (Nat → Int) × Jb :=
  let p1 := skip K 2 L j.p
  let h1 := setTo j.N t h j.p (p1 - j.p)
  let x := j.N p1 - 1
  if 0 < x then (h1, { j with left := j.left - 1, p := p1, N := upd j.N p1 x })
  else
    let p2 := skip K 3 L (p1 + 1)
    (setTo j.N (-1) h1 (p1 + 1) (p2 - (p1 + 1)), { j with left := j.left - 1, p := p2, N := upd j.N p1 x })

def runJ (S : Sy) (t : Nat) (h : Nat → Int) (j : Jb) : (Nat → Int) × Jb := runK (S.K t) (S.L t) t h j

def keep (l : List Rc) (r : Rc) : List Rc := (if l.length = 40 then l.tail else l) ++ [r]

/-- A tick in which task t has its first job j run, r behind it. -/
def tickAt (S : Sy) (m : Mc) (t : Nat) (j : Jb) (r : List Jb) : Mc × Bool :=
  let x := runJ S t m.hold j
  if x.2.p < S.L t then ({ m with now := m.now + 1, hold := x.1, q := upd m.q t (x.2 :: r) }, false)
  else ({ m with now := m.now + 1, hold := x.1, q := upd m.q t r, done := upd m.done t (m.done t + 1), kept := keep m.kept ⟨t, j.arr, j.rel, m.now + 1, x.2.left, j.ord⟩ }, true)

def tick (S : Sy) (m : Mc) : Mc × Int × Bool :=
  let c := (chTo S m S.n).1
  match m.q c.toNat with
  | [] => ({ m with now := m.now + 1, idle := m.idle + 1 }, -1, false)
  | j :: r => if c < 0 then ({ m with now := m.now + 1, idle := m.idle + 1 }, -1, false) else ((tickAt S m c.toNat j r).1, c, (tickAt S m c.toNat j r).2)

/-- How many Computes there are ahead of step i. -/
def cmpTo (K : Nat → Int) : Nat → Nat
  | 0 => 0
  | i + 1 => if K i = 1 then cmpTo K i + 1 else cmpTo K i

def Fits (K N : Nat → Int) (L : Nat) (D : Nat → Int) (d : Nat) : Prop :=
  (∀ i, i < L → K i = 1 → cmpTo K i < d ∧ 1 ≤ D (cmpTo K i) ∧ D (cmpTo K i) ≤ N i) ∧ cmpTo K L = d

@[reducible] def fitsDec (K N : Nat → Int) (L : Nat) (D : Nat → Int) (d : Nat) : Decidable (Fits K N L D d) := by unfold Fits; exact inferInstance
/-- The same as a Bool. -/
def fitsB (K N : Nat → Int) (L : Nat) (D : Nat → Int) (d : Nat) : Bool := @decide (Fits K N L D d) (fitsDec K N L D d)
@[simp] theorem fitsB_true (K N : Nat → Int) (L : Nat) (D : Nat → Int) (d : Nat) : (fitsB K N L D d = true) = Fits K N L D d := by
  unfold fitsB
  exact propext (@decide_eq_true_iff _ (fitsDec K N L D d))
@[simp] theorem fitsB_false (K N : Nat → Int) (L : Nat) (D : Nat → Int) (d : Nat) : (fitsB K N L D d = false) = ¬ Fits K N L D d := by
  unfold fitsB
  exact propext (@decide_eq_false_iff_not _ (fitsDec K N L D d))

/-- The numbers of a new job's steps. -/
def numOf (K N D : Nat → Int) (i : Nat) : Int := if K i = 1 then D (cmpTo K i) else N i

def refuse (S : Sy) (m : Mc) (t : Nat) (jit : Int) (D : Nat → Int) (d : Nat) : Int :=
  if 0 < m.done t + (m.q t).length ∧ m.now - m.last t < S.P t then 6
  else if jit < 0 ∨ S.J t < jit then 7
  else if fitsB (S.K t) (S.N t) (S.L t) D d = false then 8
  else if 8 ≤ (m.q t).length then 9
  else 0

def jobOf (S : Sy) (m : Mc) (t : Nat) (jit : Int) (D : Nat → Int) : Jb :=
  { arr := m.now, rel := m.now + jit, left := demTo (S.K t) (numOf (S.K t) (S.N t) D) (S.L t), ord := m.arrd, p := 0, N := numOf (S.K t) (S.N t) D }

def added (S : Sy) (m : Mc) (t : Nat) (jit : Int) (D : Nat → Int) : Mc :=
  { m with arrd := m.arrd + 1, last := upd m.last t m.now, q := upd m.q t (m.q t ++ [jobOf S m t jit D]) }

def arrive (S : Sy) (m : Mc) (t : Int) (jit : Int) (D : Nat → Int) (d : Nat) : Mc × Int :=
  if t < 0 ∨ (S.n : Int) ≤ t then (m, 5)
  else if refuse S m t.toNat jit D d ≠ 0 then (m, refuse S m t.toNat jit D d)
  else (added S m t.toNat jit D, 0)

/-- The ceilings as the program raises them, by the first i tasks and k steps of the next. -/
def ceilK (K N : Nat → Int) (z : Int) (c : Nat → Int) : Nat → (Nat → Int)
  | 0 => c
  | k + 1 => if K k = 2 then upd (ceilK K N z c k) (N k).toNat (max (ceilK K N z c k (N k).toNat) z) else ceilK K N z c k
def ceilI (K N : Nat → Nat → Int) (L : Nat → Nat) (Z : Nat → Int) : Nat → (Nat → Int)
  | 0 => fun _ => 0
  | i + 1 => ceilK (K i) (N i) (Z i) (ceilI K N L Z i) (L i)

def start : Mc := { now := 0, idle := 0, arrd := 0, done := fun _ => 0, last := fun _ => 0, q := fun _ => [], hold := fun _ => -1, kept := [] }

/-- What holds of a job's steps from where it stands. -/
structure JbOk (K : Nat → Int) (L : Nat) (j : Jb) : Prop where
  lt : j.p < L
  last : K (L - 1) = 1
  here : K j.p ≠ 3
  kind : ∀ i, i < L → K i = 1 ∨ K i = 2 ∨ K i = 3
  comp : ∀ i, j.p ≤ i → i < L → K i = 1 → 1 ≤ j.N i ∧ j.N i ≤ 100
  res : ∀ i, j.p ≤ i → i < L → K i ≠ 1 → 0 ≤ j.N i ∧ j.N i ≤ 7
  behind : ∀ i, i + 1 < L → K i = 2 → K (i + 1) ≠ 3
  left : j.left = demTo K j.N L - demTo K j.N j.p

/-- What holds of the numbers, so that nothing overflows. -/
structure Ok (S : Sy) (m : Mc) : Prop where
  one : 1 ≤ S.n
  eight : S.n ≤ 8
  prio : ∀ t, t < S.n → 0 ≤ S.Z t ∧ S.Z t < 8
  ceil : ∀ r, r < 8 → 0 ≤ S.C r ∧ S.C r < 8
  len : ∀ t, t < S.n → 1 ≤ S.L t ∧ S.L t ≤ 16
  now0 : 0 ≤ m.now
  now1 : m.now ≤ 1000000000000000000
  idle : 0 ≤ m.idle ∧ m.idle ≤ m.now
  arrd : 0 ≤ m.arrd ∧ m.arrd ≤ 1000000000000000000
  per : ∀ t, t < S.n → 1 ≤ S.P t ∧ S.P t ≤ 10000 ∧ 0 ≤ S.J t ∧ S.J t ≤ 10000
  few : ∀ t, t < S.n → (m.q t).length ≤ 8
  many : ∀ t, t < S.n → (m.done t : Int) + ((m.q t).length : Int) ≤ m.arrd
  lastn : ∀ t, t < S.n → 0 ≤ m.last t ∧ m.last t ≤ m.now
  job : ∀ t, t < S.n → ∀ j ∈ m.q t, JbOk (S.K t) (S.L t) j ∧ 0 ≤ j.arr ∧ j.arr ≤ m.now ∧ 0 ≤ j.rel ∧ j.rel ≤ m.now + 10000 ∧ 0 ≤ j.ord ∧ j.ord < m.arrd
  keptn : m.kept.length ≤ 40
  steps : ∀ t, t < S.n → (∀ i, i < S.L t → S.K t i = 1 ∨ S.K t i = 2 ∨ S.K t i = 3) ∧ S.K t (S.L t - 1) = 1 ∧ S.K t 0 ≠ 3 ∧ (∀ i, i + 1 < S.L t → S.K t i = 2 → S.K t (i + 1) ≠ 3) ∧ (∀ i, i < S.L t → S.K t i ≠ 1 → 0 ≤ S.N t i ∧ S.N t i ≤ 7) ∧ (∀ i, i < S.L t → S.K t i = 1 → 1 ≤ S.N t i ∧ S.N t i ≤ 100)

/-! ### laws -/

theorem skipF_spec (K : Nat → Int) (c : Int) (L : Nat) : ∀ f p, f = L - p → p ≤ L → p ≤ skipF K c L f p ∧ skipF K c L f p ≤ L ∧ (∀ i, p ≤ i → i < skipF K c L f p → K i = c) ∧ (skipF K c L f p < L → K (skipF K c L f p) ≠ c)
  | 0, p, hf, hp => by
    have : p = L := by omega
    subst this
    exact ⟨Nat.le_refl _, Nat.le_refl _, fun i h1 h2 => by simp [skipF] at h2; omega, fun h => by simp [skipF] at h⟩
  | f + 1, p, hf, hp => by
    unfold skipF
    by_cases hc : p < L ∧ K p = c
    · rw [if_pos hc]
      obtain ⟨h1, h2, h3, h4⟩ := skipF_spec K c L f (p + 1) (by omega) (by omega)
      refine ⟨by omega, h2, fun i hi hl => ?_, h4⟩
      by_cases e : i = p
      · rw [e]; exact hc.2
      · exact h3 i (by omega) hl
    · rw [if_neg hc]
      exact ⟨Nat.le_refl _, hp, fun i h1 h2 => by omega, fun h e => hc ⟨h, e⟩⟩

theorem skip_spec (K : Nat → Int) (c : Int) {L p : Nat} (hp : p ≤ L) : p ≤ skip K c L p ∧ skip K c L p ≤ L ∧ (∀ i, p ≤ i → i < skip K c L p → K i = c) ∧ (skip K c L p < L → K (skip K c L p) ≠ c) :=
  skipF_spec K c L (L - p) p rfl hp

theorem chTo_range (S : Sy) (m : Mc) : ∀ k, (chTo S m k).1 = -1 ∧ (chTo S m k).2 = -1 ∨ ∃ t : Nat, t < k ∧ (chTo S m k).1 = (t : Int) ∧ readyB m t = true ∧ (chTo S m k).2 = rank S m.hold t
  | 0 => .inl ⟨rfl, rfl⟩
  | k + 1 => by
    unfold chTo
    by_cases h : readyB m k = true ∧ (chTo S m k).2 < rank S m.hold k
    · rw [if_pos h]; exact .inr ⟨k, by omega, rfl, h.1, rfl⟩
    · rw [if_neg h]
      rcases chTo_range S m k with h1 | ⟨t, h1, h2, h3, h4⟩
      · exact .inl h1
      · exact .inr ⟨t, by omega, h2, h3, h4⟩

theorem actTo_range {S : Sy} {h : Nat → Int} {t : Nat} (hz : 0 ≤ S.Z t ∧ S.Z t < 8) (hc : ∀ r, r < 8 → 0 ≤ S.C r ∧ S.C r < 8) : ∀ r, r ≤ 8 → 0 ≤ (actTo S h t r).1 ∧ (actTo S h t r).1 < 8 ∧ 0 ≤ (actTo S h t r).2 ∧ (actTo S h t r).2 ≤ 1
  | 0, _ => by simp [actTo]; omega
  | r + 1, hr => by
    have ih := actTo_range hz hc r (by omega) (h := h)
    have hcr := hc r (by omega)
    unfold actTo
    split
    · refine ⟨?_, ?_, by simp, by simp⟩
      · show 0 ≤ max _ _; omega
      · show max _ _ < 8; omega
    · exact ih

theorem rank_range {S : Sy} {m : Mc} (hk : Ok S m) {t : Nat} (ht : t < S.n) (h : Nat → Int) : 0 ≤ rank S h t ∧ rank S h t < 16 := by
  have := actTo_range (h := h) (hk.prio t ht) hk.ceil 8 (Nat.le_refl _)
  unfold rank
  omega

end Go.Proofs.YtdabcflpcklfiaaGreat.Cad

/- Where a kernel lies in memory, and what a call leaves alone. -/
namespace Go.Proofs.YtdabcflpcklfiaaGreat
open Go.RowKit

/-- Nothing has turned but the blocks of X and new ones. -/
structure Fr (X : Nat → Prop) (w w' : World) : Prop where
  os : w'.os = w.os
  tape : w'.tape = w.tape
  output : w'.output = w.output
  size : w.heap.size ≤ w'.heap.size
  block : ∀ b, b < w.heap.size → ¬ X b → w'.heap[b]? = w.heap[b]?

theorem Fr.refl (X : Nat → Prop) (w : World) : Fr X w w := ⟨rfl, rfl, rfl, Nat.le_refl _, fun _ _ _ => rfl⟩

theorem Fr.trans {X X' : Nat → Prop} {a b c : World} (h : Fr X a b) (k : Fr X' b c) (hx : ∀ i, X' i → X i ∨ a.heap.size ≤ i) : Fr X a c :=
  ⟨k.os.trans h.os, k.tape.trans h.tape, k.output.trans h.output, Nat.le_trans h.size k.size, fun i hi hn => (k.block i (Nat.lt_of_lt_of_le hi h.size) (fun hX => by rcases hx i hX with h1 | h1; exact hn h1; omega)).trans (h.block i hi hn)⟩

theorem Fr.then {X : Nat → Prop} {a b c : World} (h : Fr X a b) (k : Fr X b c) : Fr X a c := h.trans k (fun _ hi => .inl hi)

theorem Fr.mono {X X' : Nat → Prop} {a b : World} (h : Fr X a b) (hx : ∀ i, X i → X' i) : Fr X' a b := ⟨h.os, h.tape, h.output, h.size, fun i hi hn => h.block i hi (fun hX => hn (hx i hX))⟩

theorem Fr.of_below {w w' : World} (X : Nat → Prop) (h : Below w.heap.size w w') : Fr X w w' := ⟨h.os, h.tape, h.output, h.size, fun i hi _ => h.block i hi⟩

theorem Fr.below {X : Nat → Prop} {B : Nat} {w w' : World} (h : Fr X w w') (hB : B ≤ w.heap.size) (hx : ∀ i, X i → B ≤ i) : Below B w w' :=
  ⟨h.os, h.tape, h.output, h.size, fun i hi => h.block i (by omega) (fun hX => by have := hx i hX; omega)⟩

theorem Fr.setCell {X : Nat → Prop} {w w' : World} (h : Fr X w w') {a : Addr} (ha : X a.block ∨ w.heap.size ≤ a.block) (v : Value) : Fr X w (w'.setCell a v) :=
  ⟨h.os, h.tape, h.output, by simpa using h.size, fun i hi hn => (Deep.blk_setCell_other _ _ _ _ (fun e => by rcases ha with h1 | h1; exact hn (e ▸ h1); omega)).trans (h.block i hi hn)⟩

theorem Fr.alloc {X : Nat → Prop} {w w' : World} (h : Fr X w w') (o : Obj) : Fr X w (w'.alloc o) :=
  ⟨h.os, h.tape, h.output, by have := h.size; simp; omega, fun i hi hn => (Deep.blk_alloc_lt _ _ _ (Nat.lt_of_lt_of_le hi h.size)).trans (h.block i hi hn)⟩

theorem Fr.drew {X : Nat → Prop} {w w' : World} (h : Fr X w w') : Fr X w w'.drew := ⟨h.os, h.tape, h.output, h.size, h.block⟩

theorem Fr.cell {X : Nat → Prop} {w w' : World} (h : Fr X w w') {b i : Nat} (hb : b < w.heap.size) (hn : ¬ X b) : w'.cell? ⟨b, i, none⟩ = w.cell? ⟨b, i, none⟩ := by
  simp [World.cell?, h.block b hb hn]

theorem Fr.row {X : Nat → Prop} {w w' : World} (h : Fr X w w') {b t n : Nat} {f : Nat → Value} (hr : w.rowIs b t n f) (hn : ¬ X b) : w'.rowIs b t n f := hr.of_block (h.block b hr.lt hn)

theorem row_ne {w : World} {a b s t m n : Nat} {f g : Nat → Value} (h : w.rowIs a s m f) (k : w.rowIs b t n g) (hne : s ≠ t) : a ≠ b := by
  rintro rfl
  obtain ⟨c, hc, _⟩ := h
  obtain ⟨d, hd, _⟩ := k
  rw [hc] at hd
  simp at hd
  exact hne hd.2

/-- Where a kernel's memory lies: the machine, its tasks, the map, the programs (and their room), the jobs, their steps (and their room), and the list of those that are done. -/
structure Lay where
  mb : Nat
  tb : Nat
  jm : Nat
  pb : Nat → Nat
  pc : Nat → Nat
  jb : Nat → Nat → Nat
  rb : Nat → Nat → Nat
  rc : Nat → Nat → Nat
  kv : Value

open Cad

def mcell (S : Sy) (m : Mc) (Y : Lay) (q : Nat) : Value :=
  if q = 0 then .int .i64 m.now else if q = 1 then .int .i64 m.idle else if q = 2 then .int .i64 m.arrd else if q = 3 then .slice (some ⟨Y.tb, 0, none⟩) S.n S.n
  else if q < 12 then .int .i64 (S.C (q - 4)) else if q < 20 then .int .i64 (m.hold (q - 12)) else if q = 20 then .map (some Y.jm) else Y.kv

def taskC (S : Sy) (m : Mc) (Y : Lay) (t c : Nat) : Value :=
  if c = 0 then .int .i64 (S.P t) else if c = 1 then .int .i64 (S.J t) else if c = 2 then .int .i64 (S.Z t) else if c = 3 then .slice (some ⟨Y.pb t, 0, none⟩) (S.L t) (Y.pc t)
  else if c = 4 then .int .i64 ((m.done t : Int) + ((m.q t).length : Int)) else if c = 5 then .int .i64 (m.done t) else .int .i64 (m.last t)

def tcell (S : Sy) (m : Mc) (Y : Lay) (q : Nat) : Value := taskC S m Y (q / 7) (q % 7)

def jcell (t : Nat) (j : Jb) (d : Int) (v : Value) (q : Nat) : Value :=
  if q = 0 then .int .i64 t else if q = 1 then .int .i64 j.arr else if q = 2 then .int .i64 j.rel else if q = 3 then .int .i64 d else if q = 4 then .int .i64 j.left else if q = 5 then .int .i64 j.ord else v

/-- Steps in a block of their own. -/
def StepRow (w : World) (g cap : Nat) (K N : Nat → Int) (L : Nat) : Prop :=
  L ≤ cap ∧ ∃ f, w.rowIs g 86 (cap * 2) f ∧ ∀ i, i < L → f (i * 2) = .int .i64 (K i) ∧ f (i * 2 + 1) = .int .i64 (N i)

theorem StepRow.at0 {w : World} {g cap : Nat} {K N : Nat → Int} {L : Nat} (h : StepRow w g cap K N L) {i : Nat} (hi : i < L) : w.cell? ⟨g, i * 2, none⟩ = some (.int .i64 (K i)) := by
  obtain ⟨hl, f, hr, hf⟩ := h
  rw [hr.cell (by omega), (hf i hi).1]
theorem StepRow.at1 {w : World} {g cap : Nat} {K N : Nat → Int} {L : Nat} (h : StepRow w g cap K N L) {i : Nat} (hi : i < L) : w.cell? ⟨g, i * 2 + 1, none⟩ = some (.int .i64 (N i)) := by
  obtain ⟨hl, f, hr, hf⟩ := h
  rw [hr.cell (by omega), (hf i hi).2]
theorem StepRow.of_block {w w' : World} {g cap : Nat} {K N : Nat → Int} {L : Nat} (h : StepRow w g cap K N L) (e : w'.heap[g]? = w.heap[g]?) : StepRow w' g cap K N L := by
  obtain ⟨hl, f, hr, hf⟩ := h
  exact ⟨hl, f, hr.of_block e, hf⟩
theorem StepRow.row {w : World} {g cap : Nat} {K N : Nat → Int} {L : Nat} (h : StepRow w g cap K N L) : ∃ f, w.rowIs g 86 (cap * 2) f := by
  obtain ⟨hl, f, hr, hf⟩ := h
  exact ⟨f, hr⟩
theorem StepRow.lt {w : World} {g cap : Nat} {K N : Nat → Int} {L : Nat} (h : StepRow w g cap K N L) : g < w.heap.size := by
  obtain ⟨f, hr⟩ := h.row
  exact hr.lt
theorem StepRow.frozen {w : World} {g cap : Nat} {K N : Nat → Int} {L : Nat} (h : StepRow w g cap K N L) (i : Nat) : w.frozen? ⟨g, i, none⟩ = false := by
  obtain ⟨f, hr⟩ := h.row
  exact hr.frozen i
theorem StepRow.set {w : World} {g cap : Nat} {K N : Nat → Int} {L : Nat} (h : StepRow w g cap K N L) (k : Nat) (x : Int) : StepRow (w.setCell ⟨g, k * 2 + 1, none⟩ (.int .i64 x)) g cap K (upd N k x) L := by
  obtain ⟨hl, f, hr, hf⟩ := h
  refine ⟨hl, _, hr.set (k * 2 + 1) (.int .i64 x), fun i hi => ⟨?_, ?_⟩⟩
  · show (if i * 2 = k * 2 + 1 then _ else f (i * 2)) = _
    rw [if_neg (by omega)]; exact (hf i hi).1
  · show (if i * 2 + 1 = k * 2 + 1 then _ else f (i * 2 + 1)) = _
    by_cases e : i = k
    · subst e; simp [upd]
    · rw [if_neg (by omega), upd_other _ _ e]; exact (hf i hi).2

/-- Where a job stands, as the rest of its steps. -/
def restV (g cap L p : Nat) : Value := .slice (some ⟨g, p * 2, none⟩) (L - p) (cap - p)

/-- How a pointer to a job reads. -/
def jobR (v : Value) : Option (DataW Unit × List MemPlace) := match v with
  | .pointer none => some (.nil, [])
  | .pointer (some ⟨b, 0, none⟩) => some (.lit (.int .i64 (b : Int)), [])
  | _ => none

theorem jobR_nil {v : Value} {ps : List MemPlace} (h : jobR v = some (.nil, ps)) : v = .pointer none := by
  unfold jobR at h
  split at h
  · rfl
  · simp at h
  · simp at h
theorem jobR_some {v : Value} {ps : List MemPlace} {b : Nat} (h : jobR v = some (.lit (.int .i64 (b : Int)), ps)) : v = .pointer (some ⟨b, 0, none⟩) := by
  unfold jobR at h
  split at h
  · simp at h
  · rename_i x
    simp at h
    obtain ⟨h, _⟩ := h
    have : x = b := by omega
    rw [this]
  · simp at h

theorem Tryz.laidM : laidOutB Tryz.prog = true := by kernel_rfl
theorem Tryz.row138 : (164 : TypeId) < Tryz.prog.types.size := of_decide_eq_true (by kernel_rfl)
theorem Tryz.deep132 : Tryz.prog.keyTypeAt 2 164 = true := by kernel_rfl
theorem Tryz.law132 : WideMaps.KeyLaw Tryz.prog 164 := deep_law_laid Tryz.laidM (m := 2) (by decide) Tryz.row138 Tryz.deep132 (by rw [Tryz.underlying164])
theorem Tryz.keyed : Maps.Keyed Tryz.prog 164 := Maps.Keyed.of_law Tryz.law132

/-- A job's key. -/
def keyV (t i : Nat) : Value := .agg #[.int .i64 t, .int .i64 i]

end Go.Proofs.YtdabcflpcklfiaaGreat

/- The map of the jobs: look up, put in, strike out. -/
namespace Go.Proofs.YtdabcflpcklfiaaGreat
open Go.RowKit Cad

theorem Tryz.keyType132 : Tryz.prog.keyType 164 = true := by kernel_rfl
theorem Tryz.cells164 : Tryz.prog.cellsOf 164 = 2 := by kernel_rfl
theorem Tryz.cel3 : Tryz.prog.cellsOf 3 = 1 := by kernel_rfl
theorem lits_int (d : Nat) {n : Int} (h : (Lit.int .i64 n).wf = true) : Tryz.prog.keyLits (d + 1) 3 [.int .i64 n] = some [.int .i64 n] := by
  unfold Program.keyLits
  rw [Tryz.underlying3]
  simp [h]
theorem lits_key (d : Nat) {a b : Int} (ha : (Lit.int .i64 a).wf = true) (hb : (Lit.int .i64 b).wf = true) : Tryz.prog.keyLits (d + 1 + 1) 164 [.int .i64 a, .int .i64 b] = some [.int .i64 a, .int .i64 b] := by
  have e1 := lits_int d ha
  have e2 := lits_int d hb
  unfold Program.keyLits
  rw [Tryz.underlying164]
  simp only [Tryz.cells164]
  simp [Tryz.cel3, e1, e2]
def keyL (t i : Nat) : Lit := .string (keyBytes [.int .i64 t, .int .i64 i])

theorem key_of {t i : Nat} (ht : t ≤ 9223372036854775807) (hi : i ≤ 9223372036854775807) : keyOf Tryz.prog 164 (keyV t i) = some (keyL t i) := by
  have h1 : (Lit.int .i64 (t : Int)).wf = true := WalkArith.wf_i64 (by omega)
  have h2 : (Lit.int .i64 (i : Int)).wf = true := WalkArith.wf_i64 (by omega)
  obtain ⟨d, hd⟩ : ∃ d, Tryz.prog.types.size = d + 1 := ⟨236, by kernel_rfl⟩
  have e := lits_key d h1 h2
  have hform : (keyV t i).formed Tryz.prog 164 = true := by
    simp only [keyV, Value.formed, Tryz.underlying164, Tryz.cells164]
    rfl
  unfold keyL
  unfold keyOf
  rw [Tryz.underlying164]
  simp only [Tryz.keyType132, hform, hd, Bool.and_self, if_true]
  show (Tryz.prog.keyLits (d + 1 + 1) 164 [.int .i64 t, .int .i64 i]).map _ = _
  rw [e]
  rfl

theorem keyL_inj {t i t' i' : Nat} (h1 : t ≤ 9223372036854775807) (h2 : i ≤ 9223372036854775807) (h3 : t' ≤ 9223372036854775807) (h4 : i' ≤ 9223372036854775807) (h : keyL t i = keyL t' i') : t = t' ∧ i = i' := by
  have e := Tryz.keyed.inj (key_of h1 h2) (h ▸ key_of h3 h4)
  simp [keyV] at e
  omega

/-- What lies at a key: no job, or a block. -/
def jdat (x : Option Nat) : DataW Unit := match x with
  | none => .nil
  | some b => .lit (.int .i64 (b : Int))

def jptr (x : Option Nat) : Value := .pointer (x.map fun b => ⟨b, 0, none⟩)

theorem jobR_dat {v : Value} {ps : List MemPlace} {x : Option Nat} (h : jobR v = some (jdat x, ps)) : v = jptr x := by
  cases x with
  | none => exact jobR_nil h
  | some b => exact jobR_some h

/-- Block b is the map with M's jobs, of at most n entries. -/
def JMap (w : World) (b n : Nat) (M : Nat → Nat → Option Nat) : Prop :=
  ∃ D : DataW Unit, w.ownsMap Tryz.prog 164 jobR b n D ∧ (∀ t i, t ≤ 9223372036854775807 → i ≤ 9223372036854775807 → D.atKey (keyL t i) .nil = jdat (M t i)) ∧
    (∀ l, Maps.has D l = true → ∃ t i, t ≤ 9223372036854775807 ∧ i ≤ 9223372036854775807 ∧ l = keyL t i ∧ (M t i).isSome = true)

theorem JMap.of_block {w w' : World} {b n : Nat} {M : Nat → Nat → Option Nat} (h : JMap w b n M) (e : w'.heap[b]? = w.heap[b]?) : JMap w' b n M := by
  obtain ⟨D, ⟨es, clock, hb, F, hs, hD⟩, h2, h3⟩ := h
  exact ⟨D, ⟨es, clock, e.trans hb, F, hs, hD⟩, h2, h3⟩

theorem JMap.lt {w : World} {b n : Nat} {M : Nat → Nat → Option Nat} (h : JMap w b n M) : b < w.heap.size := by
  obtain ⟨D, hown, _⟩ := h
  exact hown.lt

theorem JMap.ne {w : World} {b n : Nat} {M : Nat → Nat → Option Nat} (h : JMap w b n M) {g t m : Nat} {f : Nat → Value} (hr : w.rowIs g t m f) : b ≠ g := by
  rintro rfl
  obtain ⟨D, ⟨es, clock, hb, _⟩, _⟩ := h
  obtain ⟨c, hc, _⟩ := hr
  rw [hb] at hc
  cases hc

theorem JMap.congr {w : World} {b n : Nat} {M M' : Nat → Nat → Option Nat} (h : JMap w b n M) (e : ∀ t i, M t i = M' t i) : JMap w b n M' := by
  have : M = M' := by funext t i; exact e t i
  exact this ▸ h

theorem Tryz.zero123 (w : World) : (zeroValue 154).run Tryz.prog w = .ok (.pointer none) w := by kernel_rfl

theorem JMap.made (w : World) : JMap (w.alloc (.map #[] 0)) w.heap.size 0 (fun _ _ => none) :=
  ⟨.map [], World.ownsMap_made _ _ _ _, fun _ _ _ _ => rfl, fun l h => by simp [Maps.has] at h⟩

/-- The same as an equation. -/
theorem run_jlook {w : World} {b n : Nat} {M : Nat → Nat → Option Nat} {t i : Nat} (ht : t ≤ 9223372036854775807) (hi : i ≤ 9223372036854775807) (hj : JMap w b n M) :
    (Instr.lookup 138 (.map (some b)) (keyV t i) false).run Tryz.prog w = .ok (jptr (M t i)) w := by
  obtain ⟨D, hown, hat, _⟩ := hj
  obtain ⟨v, ps, hrun, hv⟩ := hown.lookup Tryz.keyed Tryz.underlying138 (Tryz.zero123 w) (zd := .nil) (zp := []) rfl (key_of ht hi)
  rw [hat t i ht hi] at hv
  rw [hrun, jobR_dat hv]

def mput (M : Nat → Nat → Option Nat) (t i : Nat) (x : Option Nat) : Nat → Nat → Option Nat := fun t' i' => if t' = t ∧ i' = i then x else M t' i'

theorem fr_turned {w w' : World} {b : Nat} (h : w.mapTurned w' b) : Fr (fun i => i = b) w w' :=
  ⟨h.grown.os, h.grown.tape, h.grown.output, h.grown.size, fun i hi hn => h.grown.block i hi (fun e => hn (by simpa using e))⟩

end Go.Proofs.YtdabcflpcklfiaaGreat

/- A job's next step is taken off. -/
namespace Go.Proofs.YtdabcflpcklfiaaGreat
open Go.RowKit Cad

theorem Tryz.inf85 : (Tryz.prog.info? 86).map (fun i => (i.zero, i.size, i.bytes)) = some (some (.agg #[.int .i64 0, .int .i64 0]), 2, 16) := by kernel_rfl

theorem heap_two (w : World) (a : Addr) (v : Value) (o o' : Obj) : (((w.setCell a v).alloc o).alloc o').heap[w.heap.size]? = some o := by
  rw [Deep.blk_alloc_lt _ _ _ (by simp)]
  have := Deep.blk_alloc_new (w.setCell a v) o
  simpa using this

set_option maxHeartbeats 1000000 in
theorem next_any (jb rb off len cap : Nat) (f : Nat → Value) (k x : Int) (w : World) (hl : 1 ≤ len) (_hlc : len ≤ cap) (hf : f 6 = .slice (some ⟨rb, off, none⟩) len cap)
    (hj : w.rowIs jb 160 7 f) (h0 : w.cell? ⟨rb, off, none⟩ = some (.int .i64 k)) (h1 : w.cell? ⟨rb, off + 1, none⟩ = some (.int .i64 x)) (hrl : rb < w.heap.size) :
    Calls Tryz.prog 116 #[.pointer (some ⟨jb, 0, none⟩)] w fun e w' => e = .returned (.agg #[.int .i64 k, .int .i64 x]) ∧
      w'.rowIs jb 160 7 (fun q => if q = 6 then .slice (some ⟨rb, if cap = 1 then off else off + 2, none⟩) (len - 1) (cap - 1) else f q) ∧ Fr (fun i => i = jb) w w' := by
  have c6 : w.cell? ⟨jb, 6, none⟩ = some (.slice (some ⟨rb, off, none⟩) len cap) := by rw [hj.cell (by omega), hf]
  have z6 := hj.frozen 6
  have hjl := hj.lt
  go_enter Tryz.func116, Tryz.ntmps116
  go_wp2
  · refine bodyPost_ret (results_cell_row rfl _ _ w.heap.size 86 #[.int .i64 k, .int .i64 x] (0, 0) _ rfl (heap_two _ _ _ _ _) Tryz.underlying86 rfl (by kernel_rfl)) rfl ?_
    exact ⟨rfl, ((hj.set 6 _).alloc _).alloc _, (((Fr.refl (fun i => i = jb) w).setCell (a := ⟨jb, 6, none⟩) (.inl rfl) _).alloc _).alloc _⟩
  · refine bodyPost_ret (results_cell_row rfl _ _ w.heap.size 86 #[.int .i64 k, .int .i64 x] (0, 0) _ rfl (heap_two _ _ _ _ _) Tryz.underlying86 rfl (by kernel_rfl)) rfl ?_
    exact ⟨rfl, ((hj.set 6 _).alloc _).alloc _, (((Fr.refl (fun i => i = jb) w).setCell (a := ⟨jb, 6, none⟩) (.inl rfl) _).alloc _).alloc _⟩
end Go.Proofs.YtdabcflpcklfiaaGreat

/- A job uses one tick. -/
namespace Go.Proofs.YtdabcflpcklfiaaGreat
open Go.RowKit Cad

/-- The machine's cells, with other holders. -/
def mh (f : Nat → Value) (h : Nat → Int) (q : Nat) : Value := if 12 ≤ q ∧ q < 20 then .int .i64 (h (q - 12)) else f q

structure RunInv (w0 wr : World) (mb jb rb cap L t : Nat) (f : Nat → Value) (K : Nat → Int) (j : Jb) (v : Value) (h : Nat → Int) : Prop where
  mrow : wr.rowIs mb 142 22 (mh f h)
  jrow : wr.rowIs jb 160 7 (jcell t j (-1) v)
  srow : StepRow wr rb cap K j.N L
  fr : Fr (fun i => i = mb ∨ i = jb ∨ i = rb) w0 wr

def RestAt (rb cap L p : Nat) (v : Value) : Prop := (p < L → v = restV rb cap L p) ∧ (p = L → ∃ ao c, v = .slice ao 0 c)

theorem mh_set {wr : World} {mb : Nat} {f : Nat → Value} {h : Nat → Int} (hm : wr.rowIs mb 142 22 (mh f h)) {r : Nat} (hr : r < 8) (x : Int) : (wr.setCell ⟨mb, 12 + r, none⟩ (.int .i64 x)).rowIs mb 142 22 (mh f (upd h r x)) :=
  (hm.set (12 + r) (.int .i64 x)).congr (fun q hq => by
    show (if q = 12 + r then Value.int .i64 x else mh f h q) = _
    unfold mh upd
    by_cases e : q = 12 + r
    · rw [if_pos e, if_pos (by omega), if_pos (by omega)]
    · rw [if_neg e]
      by_cases c : 12 ≤ q ∧ q < 20
      · rw [if_pos c, if_pos c, if_neg (by omega)]
      · rw [if_neg c, if_neg c])

def restLen (jb : Nat) (wr : World) : Nat := match wr.cell? ⟨jb, 6, none⟩ with
  | some (.slice _ n _) => n
  | _ => 0

/-- What 'next' does where a job stands. -/
theorem next_at {w0 wr : World} {mb jb rb cap L t : Nat} {f : Nat → Value} {K : Nat → Int} {j : Jb} {h : Nat → Int} (hi : RunInv w0 wr mb jb rb cap L t f K j (restV rb cap L j.p) h) (hp : j.p < L) :
    Calls Tryz.prog 116 #[.pointer (some ⟨jb, 0, none⟩)] wr fun e w' => ∃ v, e = .returned (.agg #[.int .i64 (K j.p), .int .i64 (j.N j.p)]) ∧ RestAt rb cap L (j.p + 1) v ∧
      RunInv w0 w' mb jb rb cap L t f K { j with p := j.p + 1 } v h ∧ w'.cell? ⟨jb, 0, none⟩ = some (.int .i64 t) := by
  have hlc := hi.srow.1
  refine (next_any jb rb (j.p * 2) (L - j.p) (cap - j.p) _ (K j.p) (j.N j.p) wr (by omega) (by omega) (by rfl) hi.jrow (hi.srow.at0 hp) (hi.srow.at1 hp) hi.srow.lt).mono ?_
  rintro e w' ⟨rfl, hrow, hfr⟩
  obtain ⟨g, hg⟩ := hi.srow.row
  have hmj : mb ≠ jb := row_ne hi.mrow hi.jrow (by decide)
  have hrj : rb ≠ jb := row_ne hg hi.jrow (by decide)
  refine ⟨_, rfl, ?_, ⟨hfr.row hi.mrow hmj, hrow.congr (g := jcell t { j with p := j.p + 1 } (-1) (.slice (some ⟨rb, if cap - j.p = 1 then j.p * 2 else j.p * 2 + 2, none⟩) (L - j.p - 1) (cap - j.p - 1))) (fun q hq => ?_), hi.srow.of_block (hfr.block _ hi.srow.lt hrj), hi.fr.trans hfr (fun i hi => .inl (.inr (.inl hi)))⟩, ?_⟩
  · refine ⟨fun h1 => ?_, fun h1 => ⟨some ⟨rb, if cap - j.p = 1 then j.p * 2 else j.p * 2 + 2, none⟩, cap - j.p - 1, ?_⟩⟩
    · unfold restV
      rw [if_neg (by omega), show j.p * 2 + 2 = (j.p + 1) * 2 from by omega, show L - j.p - 1 = L - (j.p + 1) from by omega, show cap - j.p - 1 = cap - (j.p + 1) from by omega]
    · rw [show L - j.p - 1 = 0 from by omega]
  · unfold jcell
    match q, hq with
    | 0, _ => rfl
    | 1, _ => rfl
    | 2, _ => rfl
    | 3, _ => rfl
    | 4, _ => rfl
    | 5, _ => rfl
    | 6, _ => rfl
  · rw [hrow.cell (by omega)]; rfl

end Go.Proofs.YtdabcflpcklfiaaGreat
