import Derived.Test.YtdabcflpcklfiaaGreatA23
import Derived.Test.YtdabcflpcklfiaaGreatA25
import Derived.Test.YtdabcflpcklfiaaGreatA26
import Derived.Test.YtdabcflpcklfiaaGreatA01
namespace Go.Proofs.YtdabcflpcklfiaaGreat
open Go.RowKit

/-- How Analyze comes out. -/
def Outc (T : TD) (Z : Nat → Int) (n pn : Nat) (E A : Int) (m : Nat) : Prop :=
  (m = 0 ∧ chkR T n = (E, A) ∧ E ≠ 0) ∨ (m = 0 ∧ chkR T n = (0, 0) ∧ E = 4 ∧ A = 0 ∧ (pn ≠ n ∨ pn = n ∧ ¬ Cad.PrioB Z n)) ∨ (m = n ∧ chkR T n = (0, 0) ∧ E = 0 ∧ A = 0 ∧ pn = n ∧ Cad.PrioB Z n)

theorem outc_ex (T : TD) (Z : Nat → Int) (n pn : Nat) : ∃ E A m, Outc T Z n pn E A m ∧ m ≤ 8 := by
  obtain ⟨x, y, hxy⟩ : ∃ x y, chkR T n = (x, y) := ⟨_, _, rfl⟩
  by_cases hx : x = 0
  · subst hx
    obtain ⟨hg, hy⟩ := good_of_chk hxy
    subst hy
    by_cases hp : pn = n ∧ Cad.PrioB Z n
    · exact ⟨0, 0, n, .inr (.inr ⟨rfl, hxy, rfl, rfl, hp.1, hp.2⟩), hg.eight⟩
    · refine ⟨4, 0, 0, .inr (.inl ⟨rfl, hxy, rfl, rfl, ?_⟩), by omega⟩
      by_cases e : pn = n
      · exact .inr ⟨e, fun h => hp ⟨e, h⟩⟩
      · exact .inl e
  · exact ⟨x, y, 0, .inl ⟨rfl, hxy, hx⟩, by omega⟩

theorem outc_lent {T : TD} {S : Nat → Nat} {Z : Nat → Int} {n pn m : Nat} {E A : Int} (h : Outc T Z n pn E A m) : Outc (T.lent S) Z n pn E A m := h

/-- A list of numbers that came out of the program's Analyze. -/
def OutX (B : Nat) (w' : World) (m : Nat) (xv : Value) (X : Nat → Int) : Prop :=
  (xv = .slice none 0 0 ∧ m = 0) ∨ ∃ g, xv = .slice (some ⟨g, 0, none⟩) m m ∧ B ≤ g ∧ w'.rowIs g 3 m (fun q => .int .i64 (X q))

theorem code_all (b off n cap : Nat) (ao : Option Addr) (pn pc : Nat) (T : TD) (Z : Nat → Int) (E A : Int) (m : Nat) (w : World) (hm : n ≤ 9223372036854775807) (ho : Outc T Z n pn E A m) (hb : b < w.heap.size) (hT : TasksAt w b off n T)
    (hZ : 1 ≤ pn → ∃ pb po, ao = some ⟨pb, po, none⟩ ∧ pb < w.heap.size ∧ IntsAt w pb po pn Z) :
    Calls Tryz.prog 35 #[.slice (some ⟨b, off, none⟩) n cap, .slice ao pn pc] w fun e w' => ∃ xv X, e = .returned (.tuple #[xv, .int .i64 E, .int .i64 A]) ∧ OutX w.heap.size w' m xv X ∧ (∀ i, i < m → CodeB T Z n i (X i)) ∧ Below w.heap.size w w' := by
  rcases ho with ⟨rfl, hc, hE⟩ | ⟨rfl, hc, rfl, rfl, hor⟩ | ⟨rfl, hc, rfl, rfl, rfl, hp⟩
  · refine (ana_err b off n cap _ T E A w hc hE hm hb hT).mono ?_
    rintro e w' ⟨rfl, hb'⟩
    exact ⟨_, fun _ => 0, rfl, .inl ⟨rfl, rfl⟩, fun i hi => by omega, hb'⟩
  · have h1 := (good_of_chk hc).1.one
    refine (ana_ord b off n cap ao pn pc T w hc hb hT ?_).mono ?_
    · rcases hor with h | ⟨h, hno⟩
      · exact .inl h
      · obtain ⟨pb, po, e, hpb, hz⟩ := hZ (by omega)
        exact .inr ⟨pb, po, Z, e, h, hpb, by rw [← h]; exact hz, hno⟩
    · rintro e w' ⟨rfl, hb'⟩
      exact ⟨_, fun _ => 0, rfl, .inl ⟨rfl, rfl⟩, fun i hi => by omega, hb'⟩
  · have h1 := (good_of_chk hc).1.one
    obtain ⟨pb, po, rfl, hpb, hz⟩ := hZ h1
    refine (ana_ok b off _ cap pb po pc T Z w hc hb hpb hT hz hp).mono ?_
    rintro e w' ⟨g, R, rfl, hg, hr, hR, hb'⟩
    exact ⟨_, R, rfl, .inr ⟨g, rfl, hg, hr⟩, hR, hb'⟩

/-- A list of numbers that came out of the document's Analyze. -/
def OutY (w' : World) (m : Nat) (yv : Value) (Y : Nat → Int) : Prop := ∃ ao cap, yv = .slice ao m cap ∧ (1 ≤ m → ∃ b off, ao = some ⟨b, off, none⟩ ∧ IntsAt w' b off m Y)

theorem outY_own {w w' : World} {n : Nat} {v : Value} {R : Nat → Int} (h : w'.ownsRow w.heap.size 3 1 v n (outOf R n)) : OutY w' n v R := by
  obtain ⟨ao, cap, hv⟩ := own_shapeK h
  refine ⟨ao, cap, hv, fun h1 => ?_⟩
  obtain ⟨k, rfl⟩ : ∃ k, n = k + 1 := ⟨n - 1, by omega⟩
  obtain ⟨g, c2, hv2⟩ := own_slice h
  rw [hv] at hv2
  cases hv2
  refine ⟨g, 0, rfl, fun i hi => ?_⟩
  have := h.cells (g := g) (by rw [hv]; rfl) i (.int .i64 (R i)) (by simp [outOf, hi])
  rw [Addr.add_lit] at this
  exact this

theorem ref_allA (b off n cap : Nat) (ao : Option Addr) (pn pc : Nat) (T : TD) (Z : Nat → Int) (E A : Int) (m : Nat) (w : World) (hm : n ≤ 9223372036854775807) (ho : Outc T Z n pn E A m) (hb : b < w.heap.size) (hT : TasksAt w b off n T)
    (hZ : 1 ≤ pn → ∃ pb po, ao = some ⟨pb, po, none⟩ ∧ pb < w.heap.size ∧ IntsAt w pb po pn Z) :
    Calls Tryz.prog 36 #[.slice (some ⟨b, off, none⟩) n cap, .slice ao pn pc] w fun e w' => ∃ yv Y, e = .returned (.tuple #[yv, .int .i64 E, .int .i64 A]) ∧ OutY w' m yv Y ∧ (∀ i, i < m → RefB T Z n i (Y i)) ∧ Below w.heap.size w w' := by
  rcases ho with ⟨rfl, hc, hE⟩ | ⟨rfl, hc, rfl, rfl, hor⟩ | ⟨rfl, hc, rfl, rfl, rfl, hp⟩
  · refine (refana_err b off n cap _ T E A w hc hE hm hb hT).mono ?_
    rintro e w' ⟨rfl, hb'⟩
    exact ⟨_, fun _ => 0, rfl, ⟨_, _, rfl, fun h => by omega⟩, fun i hi => by omega, hb'⟩
  · have h1 := (good_of_chk hc).1.one
    refine (refana_ord b off n cap ao pn pc T w hc hb hT ?_).mono ?_
    · rcases hor with h | ⟨h, hno⟩
      · exact .inl h
      · obtain ⟨pb, po, e, hpb, hz⟩ := hZ (by omega)
        exact .inr ⟨pb, po, Z, e, h, hpb, by rw [← h]; exact hz, fun g => hno ((Cad.order_iff Z n).1 g)⟩
    · rintro e w' ⟨rfl, hb'⟩
      exact ⟨_, fun _ => 0, rfl, ⟨_, _, rfl, fun h => by omega⟩, fun i hi => by omega, hb'⟩
  · have h1 := (good_of_chk hc).1.one
    obtain ⟨pb, po, rfl, hpb, hz⟩ := hZ h1
    refine (refana_ok b off _ cap pb po pc T Z w hc hb hpb hT hz ((Cad.order_iff Z _).2 hp)).mono ?_
    rintro e w' ⟨v, R, rfl, hown, hR, hb'⟩
    exact ⟨_, R, rfl, outY_own hown, hR, hb'⟩

/-- Both come out with the same numbers. -/
theorem outc_same {T : TD} {Z : Nat → Int} {n pn m : Nat} {E A : Int} {X Y : Nat → Int} (ho : Outc T Z n pn E A m) (hX : ∀ i, i < m → CodeB T Z n i (X i)) (hY : ∀ i, i < m → RefB T Z n i (Y i)) : ∀ i, i < m → X i = Y i := by
  intro i hi
  rcases ho with ⟨rfl, _⟩ | ⟨rfl, _⟩ | ⟨rfl, hc, _, _, _, hp⟩
  · omega
  · omega
  · obtain ⟨s, h1, h2⟩ := hX i hi
    obtain ⟨s', h3, h4⟩ := hY i hi
    exact bound_ref (good_of_chk hc).1 hi hp h1 h2 h3 h4

theorem OutX.shape {B m : Nat} {w : World} {xv : Value} {X : Nat → Int} (h : OutX B w m xv X) : ∃ xo xc, xv = .slice xo m xc := by
  rcases h with ⟨rfl, rfl⟩ | ⟨g, rfl, _⟩
  · exact ⟨_, _, rfl⟩
  · exact ⟨_, _, rfl⟩

theorem OutX.ints {B m xc : Nat} {w w' : World} {xo : Option Addr} {X : Nat → Int} (h : OutX B w m (.slice xo m xc) X) (hb : Below w.heap.size w w') : 1 ≤ m → ∃ b off, xo = some ⟨b, off, none⟩ ∧ IntsAt w' b off m X := by
  intro h1
  rcases h with ⟨_, h0⟩ | ⟨g, e, _, hr⟩
  · omega
  · cases e
    refine ⟨g, 0, rfl, fun i hi => ?_⟩
    rw [Nat.zero_add]
    exact (row_below hr hb).cell hi

end Go.Proofs.YtdabcflpcklfiaaGreat

/- Which sets of tasks can all be in time, when all the others are lower. -/
namespace Go.Proofs.YtdabcflpcklfiaaGreat
open Go.RowKit

/-- What the bound of task i is, with just the tasks of the set H above it. -/
def SetB (T : TD) (n : Nat) (H : Nat → Bool) (i : Nat) (r : Int) : Prop :=
  ∃ s, BcTo T (withI H i) n n 0 s ∧ Cad.IsBound (fun u => T.dm i + s + Cad.inter T.P T.J T.dm H u n) (T.J i) (T.D i) r

theorem isMax_unique {S : Int → Prop} {a b : Int} (h : Cad.IsMax S a) (h' : Cad.IsMax S b) : a = b := by
  obtain ⟨a0, a1, a2⟩ := h
  obtain ⟨b0, b1, b2⟩ := h'
  rcases a1 with a1 | a1 <;> rcases b1 with b1 | b1
  · omega
  · have := a2 _ b1; omega
  · have := b2 _ a1; omega
  · have := a2 _ b1; have := b2 _ a1; omega

theorem setB_unique {T : TD} {n i : Nat} {H : Nat → Bool} {r r' : Int} (h : SetB T n H i r) (h' : SetB T n H i r') : r = r' := by
  obtain ⟨s, h1, h2⟩ := h
  obtain ⟨s', h1', h2'⟩ := h'
  obtain rfl := isMax_unique h1 h1'
  exact Cad.isBound_unique h2 h2'

/-- The set without task i. -/
def dropI (H : Nat → Bool) (i j : Nat) : Bool := if j = i then false else H j

theorem dropI_self {H : Nat → Bool} {i : Nat} : dropI H i i = false := if_pos rfl
theorem dropI_ne {H : Nat → Bool} {i j : Nat} (h : j ≠ i) : dropI H i j = H j := if_neg h
theorem dropI_le {H : Nat → Bool} {i j : Nat} (h : dropI H i j = true) : H j = true ∧ j ≠ i := by
  by_cases e : j = i
  · subst e; rw [dropI_self] at h; cases h
  · rw [dropI_ne e] at h; exact ⟨h, e⟩
theorem dropI_comm {H : Nat → Bool} {i k : Nat} : dropI (dropI H i) k = dropI (dropI H k) i := by
  funext j
  unfold dropI
  by_cases a : j = k <;> by_cases b : j = i <;> simp [a, b]

/-- How many there are in a set. -/
def cntS (H : Nat → Bool) : Nat → Nat
  | 0 => 0
  | m + 1 => cntS H m + (if H m = true then 1 else 0)

theorem cntS_le {H : Nat → Bool} : ∀ m, cntS H m ≤ m
  | 0 => Nat.le_refl _
  | m + 1 => by
    have := cntS_le (H := H) m
    simp only [cntS]
    by_cases h : H m = true
    · rw [if_pos h]; omega
    · rw [if_neg h]; omega

theorem cntS_drop_ge {H : Nat → Bool} {i : Nat} : ∀ m, m ≤ i → cntS (dropI H i) m = cntS H m
  | 0, _ => rfl
  | m + 1, h => by
    simp only [cntS]
    rw [cntS_drop_ge m (by omega), dropI_ne (by omega)]

theorem cntS_drop {H : Nat → Bool} {i : Nat} (hi : H i = true) : ∀ m, i < m → cntS (dropI H i) m + 1 = cntS H m
  | 0, h => by omega
  | m + 1, h => by
    simp only [cntS]
    by_cases e : m = i
    · subst e
      rw [cntS_drop_ge m (Nat.le_refl _), dropI_self, if_pos hi]
      simp
    · have := cntS_drop hi m (by omega)
      rw [dropI_ne e]
      omega

theorem cntS_zero {H : Nat → Bool} : ∀ m, cntS H m = 0 → ∀ q, q < m → H q = false
  | 0, _, q, hq => by omega
  | m + 1, h, q, hq => by
    simp only [cntS] at h
    by_cases g : H m = true
    · rw [if_pos g] at h; omega
    · by_cases e : q = m
      · subst e; simpa using g
      · exact cntS_zero m (by omega) q (by omega)

/-- Has task i a bound, with the set H above it? -/
def Has (T : TD) (n : Nat) (H : Nat → Bool) (i : Nat) : Prop := ∃ r, SetB T n H i r ∧ 0 < r

theorem has_iff {T : TD} {n i : Nat} {H : Nat → Bool} {r : Int} (h : SetB T n H i r) : Has T n H i ↔ 0 < r := by
  constructor
  · rintro ⟨r', h', h0⟩
    rw [setB_unique h h']
    exact h0
  · exact fun g => ⟨r, h, g⟩

/-- The tasks of a set can all be in time, when all the others are lower. -/
def Poss (T : TD) (n : Nat) (H : Nat → Bool) : Prop :=
  ∀ Q : (Nat → Bool) → Prop, (∀ H, (∀ q, q < n → H q = false) → Q H) → (∀ H i, i < n → H i = true → Has T n (dropI H i) i → Q (dropI H i) → Q H) → Q H

theorem Poss.nobody {T : TD} {n : Nat} {H : Nat → Bool} (h : ∀ q, q < n → H q = false) : Poss T n H := fun _ h0 _ => h0 H h
theorem Poss.low {T : TD} {n : Nat} {H : Nat → Bool} (i : Nat) (hi : i < n) (hH : H i = true) (hb : Has T n (dropI H i) i) (hp : Poss T n (dropI H i)) : Poss T n H := fun Q h0 h1 => h1 H i hi hH hb (hp Q h0 h1)

/-- The task that gets the lowest priority of a set. -/
def Low (T : TD) (n : Nat) (H : Nat → Bool) (i : Nat) : Prop :=
  i < n ∧ H i = true ∧ Has T n (dropI H i) i ∧ Poss T n (dropI H i) ∧ ∀ j, i < j → j < n → H j = true → Has T n (dropI H j) j → ¬ Poss T n (dropI H j)

theorem low_unique {T : TD} {n i j : Nat} {H : Nat → Bool} (h : Low T n H i) (h' : Low T n H j) : i = j := by
  rcases Nat.lt_trichotomy i j with g | g | g
  · exact absurd h'.2.2.2.1 (h.2.2.2.2 j g h'.1 h'.2.1 h'.2.2.1)
  · exact g
  · exact absurd h.2.2.2.1 (h'.2.2.2.2 i g h.1 h.2.1 h.2.2.1)

theorem Low.poss {T : TD} {n i : Nat} {H : Nat → Bool} (h : Low T n H i) : Poss T n H := Poss.low i h.1 h.2.1 h.2.2.1 h.2.2.2.1

theorem poss_one {T : TD} {n : Nat} {H : Nat → Bool} (h : Poss T n H) : (∀ q, q < n → H q = false) ∨ ∃ i, i < n ∧ H i = true ∧ Has T n (dropI H i) i ∧ Poss T n (dropI H i) := by
  have key : Poss T n H ∧ ((∀ q, q < n → H q = false) ∨ ∃ i, i < n ∧ H i = true ∧ Has T n (dropI H i) i ∧ Poss T n (dropI H i)) :=
    h (fun H => Poss T n H ∧ ((∀ q, q < n → H q = false) ∨ ∃ i, i < n ∧ H i = true ∧ Has T n (dropI H i) i ∧ Poss T n (dropI H i))) (fun _ h0 => ⟨.nobody h0, .inl h0⟩) (fun _ i a b c d => ⟨.low i a b c d.1, .inr ⟨i, a, b, c, d.1⟩⟩)
  exact key.2

/-- Priorities, while they are found: those of H have none yet, the others have those below p (if Q: each the lowest one of its set). -/
structure Part (Q : Prop) (T : TD) (n p : Nat) (H : Nat → Bool) (Z : Nat → Int) : Prop where
  lt : ∀ j, j < n → H j = false → 0 ≤ Z j ∧ Z j < p
  inj : ∀ a b, a < n → b < n → H a = false → H b = false → Z a = Z b → a = b
  has : ∀ j, j < n → H j = false → Has T n (fun q => if q < n then H q || decide (Z j < Z q) else false) j
  low : ∀ j, j < n → H j = false → Q → Low T n (fun q => if q < n then H q || decide (Z j ≤ Z q) else false) j
  cnt : cntS H n + p = n
  sub : ∀ q, n ≤ q → H q = false

theorem Part.start {Q : Prop} {T : TD} {n : Nat} {Z : Nat → Int} : Part Q T n 0 (fun q => decide (q < n)) Z := by
  refine ⟨?_, ?_, ?_, ?_, ?_, fun q hq => by simpa using hq⟩
  · intro j hj h; simp [hj] at h
  · intro a b ha _ h; simp [ha] at h
  · intro j hj h; simp [hj] at h
  · intro j hj h; simp [hj] at h
  · have : ∀ m, m ≤ n → cntS (fun q => decide (q < n)) m = m := by
      intro m
      induction m with
      | zero => intro _; rfl
      | succ m ih =>
        intro hm
        simp only [cntS]
        rw [ih (by omega), if_pos (by simp only [decide_eq_true_eq]; omega)]
    rw [this n (Nat.le_refl _)]; rfl

def updZ (Z : Nat → Int) (i : Nat) (x : Int) (j : Nat) : Int := if j = i then x else Z j

theorem Part.next {Q : Prop} {T : TD} {n p i : Nat} {H : Nat → Bool} {Z : Nat → Int} (h : Part Q T n p H Z) (hi : i < n) (hH : H i = true) (hb : Has T n (dropI H i) i) (hl : Q → Low T n H i) : Part Q T n (p + 1) (dropI H i) (updZ Z i p) := by
  have old : ∀ j, j < n → dropI H i j = false → j ≠ i → H j = false := fun j _ hj e => by rw [dropI_ne e] at hj; exact hj
  refine ⟨?_, ?_, ?_, ?_, ?_, ?_⟩
  · intro j hj hd
    unfold updZ
    by_cases e : j = i
    · rw [if_pos e]; omega
    · rw [if_neg e]
      have := h.lt j hj (old j hj hd e)
      omega
  · intro a b ha hb' hda hdb he
    unfold updZ at he
    by_cases ea : a = i <;> by_cases eb : b = i
    · omega
    · rw [if_pos ea, if_neg eb] at he
      have := h.lt b hb' (old b hb' hdb eb)
      omega
    · rw [if_neg ea, if_pos eb] at he
      have := h.lt a ha (old a ha hda ea)
      omega
    · rw [if_neg ea, if_neg eb] at he
      exact h.inj a b ha hb' (old a ha hda ea) (old b hb' hdb eb) he
  · intro j hj hd
    by_cases e : j = i
    · subst e
      have : (fun q => if q < n then dropI H j q || decide (updZ Z j p j < updZ Z j p q) else false) = dropI H j := by
        funext q
        by_cases hq : q < n
        · rw [if_pos hq]
          by_cases eq : q = j
          · subst eq
            simp [dropI_self]
          · cases hh : dropI H j q with
            | true => simp
            | false =>
              have := h.lt q hq (old q hq hh eq)
              simp only [updZ, if_pos, if_neg eq, Bool.false_or, decide_eq_false_iff_not]
              omega
        · rw [if_neg hq, dropI_ne (by omega), h.sub q (by omega)]
      rw [this]
      exact hb
    · have hj' := h.lt j hj (old j hj hd e)
      have : (fun q => if q < n then dropI H i q || decide (updZ Z i p j < updZ Z i p q) else false) = (fun q => if q < n then H q || decide (Z j < Z q) else false) := by
        funext q
        by_cases hq : q < n
        · rw [if_pos hq, if_pos hq]
          by_cases eq : q = i
          · subst eq
            simp only [dropI_self, hH, updZ, if_neg e, if_pos, Bool.false_or, Bool.true_or, decide_eq_true_eq]
            omega
          · simp only [dropI_ne eq, updZ, if_neg e, if_neg eq]
        · rw [if_neg hq, if_neg hq]
      rw [this]
      exact h.has j hj (old j hj hd e)
  · intro j hj hd hQ
    by_cases e : j = i
    · subst e
      have : (fun q => if q < n then dropI H j q || decide (updZ Z j p j ≤ updZ Z j p q) else false) = H := by
        funext q
        by_cases hq : q < n
        · rw [if_pos hq]
          by_cases eq : q = j
          · subst eq
            simp [hH]
          · rw [dropI_ne eq]
            cases hh : H q with
            | true => simp
            | false =>
              have := h.lt q hq hh
              simp only [updZ, if_pos, if_neg eq, Bool.false_or, decide_eq_false_iff_not]
              omega
        · rw [if_neg hq, h.sub q (by omega)]
      rw [this]
      exact hl hQ
    · have hj' := h.lt j hj (old j hj hd e)
      have : (fun q => if q < n then dropI H i q || decide (updZ Z i p j ≤ updZ Z i p q) else false) = (fun q => if q < n then H q || decide (Z j ≤ Z q) else false) := by
        funext q
        by_cases hq : q < n
        · rw [if_pos hq, if_pos hq]
          by_cases eq : q = i
          · subst eq
            simp only [dropI_self, hH, updZ, if_neg e, if_pos, Bool.false_or, Bool.true_or, decide_eq_true_eq]
            omega
          · simp only [dropI_ne eq, updZ, if_neg e, if_neg eq]
        · rw [if_neg hq, if_neg hq]
      rw [this]
      exact h.low j hj (old j hj hd e) hQ
  · have := cntS_drop hH n hi
    have := h.cnt
    omega
  · intro q hq
    rw [dropI_ne (by omega)]
    exact h.sub q hq

/-- With all priorities given: they are priorities, and each task has its bound. -/
theorem Part.done {Q : Prop} {T : TD} {n : Nat} {H : Nat → Bool} {Z : Nat → Int} (h : Part Q T n n H Z) : Cad.PrioB Z n ∧ (∀ i, i < n → Has T n (abv Z n i) i) ∧ (Q → ∀ i, i < n → Low T n (fun q => if q < n then decide (Z i ≤ Z q) else false) i) := by
  have h0 := cntS_zero (H := H) n (by have := h.cnt; omega)
  refine ⟨⟨fun k hk => ?_, fun a b ha hb => h.inj a b ha hb (h0 a ha) (h0 b hb)⟩, fun i hi => ?_, fun hQ i hi => ?_⟩
  · have := h.lt k hk (h0 k hk)
    exact this
  · have := h.has i hi (h0 i hi)
    have e : (fun q => if q < n then H q || decide (Z i < Z q) else false) = abv Z n i := by
      funext q
      unfold abv
      by_cases hq : q < n
      · rw [if_pos hq, if_pos hq, h0 q hq]; rfl
      · rw [if_neg hq, if_neg hq]
    rw [e] at this
    exact this
  · have := h.low i hi (h0 i hi) hQ
    have e : (fun q => if q < n then H q || decide (Z i ≤ Z q) else false) = (fun q => if q < n then decide (Z i ≤ Z q) else false) := by
      funext q
      by_cases hq : q < n
      · rw [if_pos hq, if_pos hq, h0 q hq]; rfl
      · rw [if_neg hq, if_neg hq]
    rw [e] at this
    exact this

/-- Where there are priorities with which all have bounds, it is possible. -/
theorem poss_of_prio {T : TD} {n : Nat} {Z : Nat → Int} (hp : Cad.PrioB Z n) (hb : ∀ i, i < n → Has T n (abv Z n i) i) : Poss T n (fun q => decide (q < n)) := by
  have main : ∀ d p : Nat, p + d = n → Poss T n (fun q => decide (q < n ∧ (p : Int) ≤ Z q)) := by
    intro d
    induction d with
    | zero =>
      intro p hd
      refine Poss.nobody (fun q hq => ?_)
      have := hp.1 q hq
      simp only [decide_eq_false_iff_not]
      omega
    | succ d ih =>
      intro p hd
      have h1 := ih (p + 1) (by omega)
      by_cases hx : ∃ i, i < n ∧ Z i = p
      · obtain ⟨i, hi, hz⟩ := hx
        have e : dropI (fun q => decide (q < n ∧ (p : Int) ≤ Z q)) i = (fun q => decide (q < n ∧ ((p + 1 : Nat) : Int) ≤ Z q)) := by
          funext q
          by_cases eq : q = i
          · subst eq
            rw [dropI_self]
            symm
            simp only [decide_eq_false_iff_not]
            omega
          · rw [dropI_ne eq]
            by_cases hq : q < n
            · have : Z q ≠ p := fun g => eq (hp.2 q i hq hi (by omega))
              simp only [hq, true_and, decide_eq_decide]
              omega
            · simp [hq]
        have e2 : abv Z n i = (fun q => decide (q < n ∧ ((p + 1 : Nat) : Int) ≤ Z q)) := by
          funext q
          unfold abv
          by_cases hq : q < n
          · rw [if_pos hq]
            simp only [hq, true_and, decide_eq_decide]
            omega
          · rw [if_neg hq]
            simp [hq]
        refine Poss.low i hi (by simp only [decide_eq_true_eq]; omega) ?_ ?_
        · rw [e, ← e2]; exact hb i hi
        · rw [e]; exact h1
      · have e : (fun q => decide (q < n ∧ (p : Int) ≤ Z q)) = (fun q => decide (q < n ∧ ((p + 1 : Nat) : Int) ≤ Z q)) := by
          funext q
          by_cases hq : q < n
          · have : Z q ≠ p := fun g => hx ⟨q, hq, g⟩
            simp only [hq, true_and, decide_eq_decide]
            omega
          · simp [hq]
        rw [e]
        exact h1
  have := main n 0 (by omega)
  have e : (fun q => decide (q < n ∧ ((0 : Nat) : Int) ≤ Z q)) = (fun q => decide (q < n)) := by
    funext q
    by_cases hq : q < n
    · have := hp.1 q hq
      simp only [hq, true_and, decide_eq_decide]
      simp
      omega
    · simp [hq]
  rw [e] at this
  exact this

end Go.Proofs.YtdabcflpcklfiaaGreat

/- A task that moves up loses at least as much as it gains: the lowest priority may go to any task that gets a bound with it. -/
namespace Go.Proofs.YtdabcflpcklfiaaGreat
open Go.RowKit

theorem lon_le_dem {T : TD} {n k q : Nat} (hG : Good T n) (hk : k < n) : 0 ≤ T.lon k q ∧ T.lon k q ≤ T.dm k := by
  have hp := hG.prog k hk
  obtain ⟨_, _, _, I⟩ := Cad.progB_inv hp
  refine ⟨I.lon0 q, ?_⟩
  show Cad.lonTo (T.K k) (T.N k) (q : Int) (T.L k) ≤ Cad.demTo (T.K k) (T.N k) (T.L k)
  rcases I.best (q : Int) with h0 | ⟨a, e, hc, he⟩
  · have := (Cad.dem_pos hp).1
    omega
  · have h1 := Cad.demTo_mono I.steps e (T.L k) (by have := hc.2.1; omega) (Nat.le_refl _)
    have h2 := Cad.demTo_mono I.steps 0 a (by omega) (by have := hc.1; have := hc.2.1; omega)
    have h0 : Cad.demTo (T.K k) (T.N k) 0 = 0 := rfl
    omega

theorem inter_drop_ge {T : TD} {H : Nat → Bool} {k : Nat} {u : Int} : ∀ m, m ≤ k → Cad.inter T.P T.J T.dm (dropI H k) u m = Cad.inter T.P T.J T.dm H u m
  | 0, _ => rfl
  | m + 1, h => by
    simp only [Cad.inter]
    rw [inter_drop_ge m (by omega), dropI_ne (by omega)]

theorem ceil_one {u J P : Int} (hu : 1 ≤ u) (hJ : 0 ≤ J) (hP : 1 ≤ P) : 1 ≤ Cad.ceilD (u + J) P := by
  unfold Cad.ceilD
  have : P ≤ u + J + P - 1 := by omega
  exact (Int.le_ediv_iff_mul_le (by omega)).2 (by omega)

theorem inter_drop {T : TD} {H : Nat → Bool} {n k : Nat} {u : Int} (hG : Good T n) (hk : H k = true) (hu : 1 ≤ u) : ∀ m, k < m → m ≤ n → Cad.inter T.P T.J T.dm (dropI H k) u m + T.dm k ≤ Cad.inter T.P T.J T.dm H u m
  | 0, h, _ => by omega
  | m + 1, h, hm => by
    simp only [Cad.inter]
    by_cases e : m = k
    · subst e
      rw [inter_drop_ge m (Nat.le_refl _), dropI_self, if_pos hk, if_neg (by simp)]
      obtain ⟨p1, _, _, _, j0, _⟩ := hG.times m (by omega)
      have hd := (Cad.dem_pos (hG.prog m (by omega))).1
      have hc := ceil_one hu j0 p1
      have hd' : 1 ≤ T.dm m := hd
      have := Int.mul_le_mul_of_nonneg_right hc (show 0 ≤ T.dm m by omega)
      omega
    · have := inter_drop hG hk hu m (by omega) (by omega)
      rw [dropI_ne e]
      omega

/-- The least number that fits, below one that is enough. -/
theorem least_fit {f : Int → Int} {w : Int} (hm : ∀ a b, a ≤ b → f a ≤ f b) (h1 : ∀ u, 1 ≤ u → 1 ≤ f u) (hw : 1 ≤ w) (hf : f w ≤ w) : ∃ v, 1 ≤ v ∧ v ≤ w ∧ f v = v ∧ ∀ u, 1 ≤ u → u < v → f u ≠ u := by
  have main : ∀ d : Nat, ∀ w : Int, w = d + 1 → f w ≤ w → ∃ v, 1 ≤ v ∧ v ≤ w ∧ f v = v ∧ ∀ u, 1 ≤ u → u < v → f u ≠ u := by
    intro d
    induction d using Nat.strongRecOn with
    | ind d ih =>
      intro w hd hf
      by_cases hx : ∃ u, 1 ≤ u ∧ u < w ∧ f u ≤ u
      · obtain ⟨u, h1u, huw, hfu⟩ := hx
        obtain ⟨v, a, b, c, e⟩ := ih (u - 1).toNat (by omega) u (by omega) hfu
        exact ⟨v, a, by omega, c, e⟩
      · have hfw : f w = w := by
          rcases Int.lt_or_le (f w) w with g | g
          · exact absurd ⟨f w, h1 w (by omega), g, hm _ _ (by omega)⟩ hx
          · omega
        exact ⟨w, by omega, Int.le_refl _, hfw, fun u a b c => hx ⟨u, a, b, by omega⟩⟩
  exact main (w - 1).toNat w (by omega) hf

/-- The greatest length that there is. -/
theorem bc_ex (T : TD) (Rs : Nat → Bool) (n : Nat) : ∃ s, BcTo T Rs n n 0 s := by
  classical
  have key : ∀ j, j ≤ n → ∃ b, BcTo T Rs n j 0 b := by
    intro j
    induction j with
    | zero => intro _; exact ⟨0, BcTo.start⟩
    | succ j ih =>
      intro hj
      obtain ⟨b, hb⟩ := ih (by omega)
      by_cases hR : Rs j = true
      · exact ⟨b, BcTo.next hb (.inr ⟨rfl, hR⟩)⟩
      · have hR' : Rs j = false := by simpa using hR
        have inner : ∀ r, r ≤ 8 → ∃ c, BcTo T Rs n j r c := by
          intro r
          induction r with
          | zero => intro _; exact ⟨b, hb⟩
          | succ r ihr =>
            intro hr
            obtain ⟨c, hc⟩ := ihr (by omega)
            by_cases hl : LockedBy T Rs r n
            · exact ⟨_, BcTo.take hc hR' hl⟩
            · exact ⟨c, BcTo.skip hc hl⟩
        obtain ⟨c, hc⟩ := inner 8 (Nat.le_refl _)
        exact ⟨c, BcTo.next hc (.inl rfl)⟩
  exact key n (Nat.le_refl _)

/-- A task whose set loses one of the higher ones keeps its bound. -/
theorem has_drop {T : TD} {n i k : Nat} {H : Nat → Bool} (hG : Good T n) (hi : i < n) (hk : k < n) (hik : k ≠ i) (hH : H k = true) (h : Has T n H i) : Has T n (dropI H k) i := by
  obtain ⟨r, ⟨s, hs, hb⟩, h0⟩ := h
  rcases hb with ⟨w, w1, wd, wf, _, rfl⟩ | ⟨rfl, _⟩
  · obtain ⟨s', hs'⟩ := bc_ex T (withI (dropI H k) i) n
    have hss : s' ≤ s + T.dm k := by
      have hd := (Cad.dem_pos (hG.prog k hk)).1
      have hd' : 1 ≤ T.dm k := hd
      rcases hs'.2.1 with g | ⟨a, q, haq, hRa, ⟨t, htn, htR, htl⟩, g⟩
      · have := hs.1; omega
      · by_cases ea : a = k
        · subst ea
          have := (lon_le_dem (q := q) hG hk).2
          have := hs.1
          omega
        · have hRa' : withI H i a = false := by
            unfold withI at hRa ⊢
            by_cases e : a = i
            · rw [if_pos e] at hRa; cases hRa
            · rw [if_neg e] at hRa ⊢
              rw [dropI_ne ea] at hRa
              exact hRa
          have htR' : withI H i t = true := by
            unfold withI at htR ⊢
            by_cases e : t = i
            · rw [if_pos e]
            · rw [if_neg e] at htR ⊢
              exact (dropI_le htR).1
          have := hs.2.2 s' ⟨a, q, haq, hRa', ⟨t, htn, htR', htl⟩, g⟩
          omega
    have hdm := (Cad.dem_pos (hG.prog i hi)).1
    have hdm' : 1 ≤ T.dm i := hdm
    have hs0 := hs'.1
    have hmono : ∀ a b : Int, a ≤ b → T.dm i + s' + Cad.inter T.P T.J T.dm (dropI H k) a n ≤ T.dm i + s' + Cad.inter T.P T.J T.dm (dropI H k) b n := fun a b hab => by
      have := Cad.inter_mono (hi := dropI H k) hG.timesOk hab n (Nat.le_refl _)
      omega
    have h1 : ∀ u : Int, 1 ≤ u → 1 ≤ T.dm i + s' + Cad.inter T.P T.J T.dm (dropI H k) u n := fun u hu => by
      have h0 : Cad.inter T.P T.J T.dm (dropI H k) 0 n ≤ Cad.inter T.P T.J T.dm (dropI H k) u n := Cad.inter_mono (hi := dropI H k) hG.timesOk (by omega) n (Nat.le_refl _)
      have := (Cad.inter_bound (hi := dropI H k) hG.timesOk (w := 0) (by omega) (by omega) n (Nat.le_refl _)).1
      omega
    have hle : T.dm i + s' + Cad.inter T.P T.J T.dm (dropI H k) w n ≤ w := by
      have := inter_drop hG hH w1 n hk (Nat.le_refl _)
      have e : T.dm i + s + Cad.inter T.P T.J T.dm H w n = w := wf
      omega
    obtain ⟨v, v1, vw, vf, vl⟩ := least_fit hmono h1 w1 hle
    have hj := (hG.times i hi).2.2.2.2.1
    exact ⟨v + T.J i, ⟨s', hs', .inl ⟨v, v1, by omega, vf, vl, rfl⟩⟩, by omega⟩
  · omega

/-- The lowest priority may go to any task that gets a bound with it. -/
theorem poss_drop {T : TD} {n : Nat} (hG : Good T n) {H : Nat → Bool} (h : Poss T n H) : ∀ i, i < n → H i = true → Has T n (dropI H i) i → Poss T n (dropI H i) := by
  have key : Poss T n H ∧ (∀ i, i < n → H i = true → Has T n (dropI H i) i → Poss T n (dropI H i)) := by
   refine h (fun H => Poss T n H ∧ (∀ i, i < n → H i = true → Has T n (dropI H i) i → Poss T n (dropI H i))) ?_ ?_
   · intro H h
     refine ⟨Poss.nobody h, ?_⟩
     intro i hi hH; rw [h i hi] at hH; cases hH
   · intro H k hk hHk hbk hpi
     obtain ⟨hp, ih⟩ := hpi
     refine ⟨Poss.low k hk hHk hbk hp, ?_⟩
     intro i hi hH hb
     by_cases e : i = k
     · subst e; exact hp
     · have hHi : dropI H k i = true := by rw [dropI_ne e]; exact hH
       have hHk' : dropI H i k = true := by rw [dropI_ne (fun g => e g.symm)]; exact hHk
       have hb' : Has T n (dropI (dropI H k) i) i := by
         rw [dropI_comm]
         exact has_drop hG hi hk (fun g => e g.symm) hHk' hb
       have h1 := ih i hi hHi hb'
       refine Poss.low k hk hHk' ?_ ?_
       · rw [dropI_comm]
         exact has_drop hG hk hi e hHi hbk
       · rw [dropI_comm]
         exact h1
  exact key.2

/-- So the task that gets the lowest priority is just the one with the greatest number of those that get a bound with it. -/
theorem low_of {T : TD} {n i : Nat} (hG : Good T n) {H : Nat → Bool} (h : Poss T n H) (hi : i < n) (hH : H i = true) (hb : Has T n (dropI H i) i) (hmax : ∀ j, i < j → j < n → H j = true → ¬ Has T n (dropI H j) j) : Low T n H i :=
  ⟨hi, hH, hb, poss_drop hG h i hi hH hb, fun j h1 h2 h3 h4 => absurd h4 (hmax j h1 h2 h3)⟩

end Go.Proofs.YtdabcflpcklfiaaGreat

/- The law tries every order: if one of them has all bounds, it is possible. -/
namespace Go.Proofs.YtdabcflpcklfiaaGreat
open Go.RowKit Cad

theorem row_set_int {w : World} {pb n : Nat} {F : Nat → Int} (h : w.rowIs pb 3 n (fun q => .int .i64 (F q))) (i : Nat) (x : Int) : (w.setCell ⟨pb, i, none⟩ (.int .i64 x)).rowIs pb 3 n (fun q => .int .i64 (updZ F i x q)) :=
  (h.set i (.int .i64 x)).congr (fun q _ => by
    unfold updZ
    by_cases e : q = i
    · rw [if_pos e, if_pos e]
    · rw [if_neg e, if_neg e])

end Go.Proofs.YtdabcflpcklfiaaGreat

/- The document's Assign. -/
namespace Go.Proofs.YtdabcflpcklfiaaGreat
open Go.RowKit

theorem refB_set {T : TD} {Z : Nat → Int} {n i : Nat} {r : Int} (hG : Good T n) (hin : i < n) (hp : Cad.PrioB Z n) (h : RefB T Z n i r) : SetB T n (abv Z n i) i r := by
  obtain ⟨s', hm, hr⟩ := h
  obtain ⟨s, hs⟩ := bc_ex T (withI (abv Z n i) i) n
  have hc : Cad.IsMax (Cad.SCode T.K T.N T.L Z n i) s := BcTo.fin (fun a ha => by
    unfold withI abv
    by_cases e : a = i
    · subst e; simp
    · simp [e, ha]) hs
  have he : s' = s := Cad.blk_eq hG.prog hin (fun t ht => (hp.1 t ht).1) hp.2 hm hc
  subst he
  have hf : (fun u => T.dm i + s' + Cad.inter T.P T.J T.dm (abv Z n i) u n) = fitF T Z n i s' := by
    funext u
    unfold fitF
    rw [inter_congr (h := abv Z n i) (h' := hiB Z i) n (fun m hm => by unfold abv hiB; rw [if_pos hm])]
  exact ⟨s', hs, by rw [hf]; exact hr⟩

/-- The priorities that were given, task i next, the others above. -/
def tryZ (H : Nat → Bool) (Z : Nat → Int) (i p j : Nat) : Int := if H j = false then Z j else if j = i then (p : Int) else (p : Int) + 1 + (cntS (dropI H i) j : Int)

theorem cntS_mono {H : Nat → Bool} {a : Nat} : ∀ d, cntS H a ≤ cntS H (a + d)
  | 0 => Nat.le_refl _
  | d + 1 => by
    have := cntS_mono (H := H) (a := a) d
    show _ ≤ cntS H (a + d) + _
    omega

theorem cntS_lt {H : Nat → Bool} {a b : Nat} (ha : H a = true) (h : a < b) : cntS H a < cntS H b := by
  obtain ⟨d, rfl⟩ : ∃ d, b = a + 1 + d := ⟨b - (a + 1), by omega⟩
  have h1 := cntS_mono (H := H) (a := a + 1) d
  have h2 : cntS H (a + 1) = cntS H a + 1 := by
    show cntS H a + (if H a = true then 1 else 0) = _
    rw [if_pos ha]
  omega

theorem try_prio {Q : Prop} {T : TD} {n p i : Nat} {H : Nat → Bool} {Z : Nat → Int} (h : Part Q T n p H Z) (hi : i < n) (hH : H i = true) : Cad.PrioB (tryZ H Z i p) n ∧ abv (tryZ H Z i p) n i = dropI H i := by
  have hcn := cntS_drop hH n hi
  have hc := h.cnt
  have hgiven : ∀ j, j < n → H j = false → tryZ H Z i p j = Z j ∧ 0 ≤ Z j ∧ Z j < p := fun j hj hh => ⟨if_pos hh, h.lt j hj hh⟩
  have hself : tryZ H Z i p i = (p : Int) := by unfold tryZ; rw [if_neg (by simp [hH]), if_pos rfl]
  have hoth : ∀ j, j < n → H j = true → j ≠ i → tryZ H Z i p j = (p : Int) + 1 + (cntS (dropI H i) j : Int) ∧ (p : Int) + 1 + (cntS (dropI H i) j : Int) < n ∧ dropI H i j = true := fun j hj hh hne => by
    have hd : dropI H i j = true := by rw [dropI_ne hne]; exact hh
    have := cntS_lt hd hj
    refine ⟨?_, by omega, hd⟩
    unfold tryZ
    rw [if_neg (by simp [hh]), if_neg hne]
  refine ⟨⟨fun k hk => ?_, fun a b ha hb e => ?_⟩, ?_⟩
  · rcases Bool.eq_false_or_eq_true (H k) with hk2 | hk2
    · by_cases e : k = i
      · subst e; rw [hself]; omega
      · have := hoth k hk hk2 e; omega
    · have := hgiven k hk hk2; omega
  · rcases Bool.eq_false_or_eq_true (H a) with ha2 | ha2 <;> rcases Bool.eq_false_or_eq_true (H b) with hb2 | hb2
    · by_cases ea : a = i
      · by_cases eb : b = i
        · omega
        · have := hoth b hb hb2 eb; subst ea; rw [hself] at e; omega
      · by_cases eb : b = i
        · have := hoth a ha ha2 ea; subst eb; rw [hself] at e; omega
        · have h1 := hoth a ha ha2 ea
          have h2 := hoth b hb hb2 eb
          rcases Nat.lt_trichotomy a b with g | g | g
          · have := cntS_lt h1.2.2 g; omega
          · exact g
          · have := cntS_lt h2.2.2 g; omega
    · have h2 := hgiven b hb hb2
      by_cases ea : a = i
      · subst ea; rw [hself] at e; omega
      · have := hoth a ha ha2 ea; omega
    · have h2 := hgiven a ha ha2
      by_cases eb : b = i
      · subst eb; rw [hself] at e; omega
      · have := hoth b hb hb2 eb; omega
    · have h1 := hgiven a ha ha2
      have h2 := hgiven b hb hb2
      exact h.inj a b ha hb ha2 hb2 (by omega)
  · funext j
    unfold abv
    rw [hself]
    by_cases hj : j < n
    · rw [if_pos hj]
      by_cases e : j = i
      · subst e; rw [hself, dropI_self]; simp
      · rw [dropI_ne e]
        rcases Bool.eq_false_or_eq_true (H j) with hj2 | hj2
        · have := hoth j hj hj2 e
          rw [hj2]
          simp only [decide_eq_true_eq]
          omega
        · have := hgiven j hj hj2
          rw [hj2]
          simp only [decide_eq_false_iff_not]
          omega
    · rw [if_neg hj, dropI_ne (by omega), h.sub j (by omega)]

/-- What the document's search has come to. -/
structure RefPart (T : TD) (n p : Nat) (H : Nat → Bool) (Z : Nat → Int) : Prop where
  part : Part False T n p H Z
  whole : Poss T n (fun q => decide (q < n)) → Part True T n p H Z ∧ Poss T n H

theorem RefPart.start {T : TD} {n : Nat} {Z : Nat → Int} : RefPart T n 0 (fun q => decide (q < n)) Z := ⟨Part.start, fun h => ⟨Part.start, h⟩⟩

theorem RefPart.next {T : TD} {n p i : Nat} {H : Nat → Bool} {Z : Nat → Int} (hG : Good T n) (h : RefPart T n p H Z) (hi : i < n) (hH : H i = true) (hb : Has T n (dropI H i) i) (hmax : ∀ j, i < j → j < n → H j = true → ¬ Has T n (dropI H j) j) : RefPart T n (p + 1) (dropI H i) (updZ Z i p) :=
  ⟨h.part.next hi hH hb (fun h => h.elim), fun hp => ⟨(h.whole hp).1.next hi hH hb (fun _ => low_of hG (h.whole hp).2 hi hH hb hmax), poss_drop hG (h.whole hp).2 i hi hH hb⟩⟩

theorem RefPart.none {T : TD} {n p : Nat} {H : Nat → Bool} {Z : Nat → Int} (h : RefPart T n p H Z) (hp : p < n) (hmax : ∀ j, j < n → H j = true → ¬ Has T n (dropI H j) j) : ¬ Poss T n (fun q => decide (q < n)) := fun hf => by
  rcases poss_one (h.whole hf).2 with h0 | ⟨i, hi, hH, hb, _⟩
  · have hz : ∀ m, m ≤ n → cntS H m = 0 := by
      intro m
      induction m with
      | zero => intro _; rfl
      | succ m ih =>
        intro hm
        show cntS H m + (if H m = true then 1 else 0) = 0
        rw [ih (by omega), if_neg (by rw [h0 m (by omega)]; decide)]
    have := hz n (Nat.le_refl _)
    have := h.part.cnt
    omega
  · exact hmax i hi hH hb

theorem RefPart.done {T : TD} {n : Nat} {H : Nat → Bool} {Z : Nat → Int} (h : RefPart T n n H Z) : Cad.PrioB Z n ∧ (∀ i, i < n → Low T n (fun q => if q < n then decide (Z i ≤ Z q) else false) i) := by
  obtain ⟨h1, h2, _⟩ := h.part.done
  exact ⟨h1, ((h.whole (poss_of_prio h1 h2)).1.done).2.2 trivial⟩

/-- There is one way only. -/
theorem low_prio_unique {T : TD} {n : Nat} {Z Z' : Nat → Int} (hp : Cad.PrioB Z n) (hp' : Cad.PrioB Z' n) (hl : ∀ i, i < n → Low T n (fun q => if q < n then decide (Z i ≤ Z q) else false) i) (hl' : ∀ i, i < n → Low T n (fun q => if q < n then decide (Z' i ≤ Z' q) else false) i) : ∀ i, i < n → Z i = Z' i := by
  have main : ∀ p : Nat, p ≤ n → ∀ i, i < n → (Z i < p ∨ Z' i < p) → Z i = Z' i := by
    intro p
    induction p with
    | zero => intro _ i hi h; have := (hp.1 i hi).1; have := (hp'.1 i hi).1; omega
    | succ p ih =>
      intro hpn i hi h
      have ih' := ih (by omega)
      obtain ⟨a, ha, hza⟩ := (Cad.order_iff Z n).2 hp p (by omega)
      obtain ⟨b, hb, hzb⟩ := (Cad.order_iff Z' n).2 hp' p (by omega)
      have hset : (fun q => if q < n then decide (Z a ≤ Z q) else false) = (fun q => if q < n then decide (Z' b ≤ Z' q) else false) := by
        funext q
        by_cases hq : q < n
        · rw [if_pos hq, if_pos hq, hza, hzb, decide_eq_decide]
          have := ih' q hq
          constructor
          · intro g
            rcases Int.lt_or_le (Z' q) p with g2 | g2
            · have := this (.inr g2); omega
            · exact g2
          · intro g
            rcases Int.lt_or_le (Z q) p with g2 | g2
            · have := this (.inl g2); omega
            · exact g2
        · rw [if_neg hq, if_neg hq]
      have hab : a = b := low_unique (hl a ha) (by rw [hset]; exact hl' b hb)
      subst hab
      by_cases hd : Z i < p ∨ Z' i < p
      · exact ih' i hi hd
      · have hz : Z i = p ∨ Z' i = p := by omega
        rcases hz with g | g
        · have : i = a := hp.2 i a hi ha (by omega)
          subst this; omega
        · have : i = a := hp'.2 i a hi ha (by omega)
          subst this; omega
  intro i hi
  exact main n (Nat.le_refl _) i hi (.inl (hp.1 i hi).2)

theorem outOf_next (R : Nat → Int) (k : Nat) {r : Int} (h : r = R k) : outOf R k ++ [Value.int .i64 r] = outOf R (k + 1) := by
  subst h
  simp [outOf, List.range_succ]

set_option maxRecDepth 100000 in
set_option maxHeartbeats 1000000 in
theorem tried_any (pb gb n pc gc i p : Nat) (H : Nat → Bool) (Z : Nat → Int) (w : World) (hn : n ≤ 8) (hi : i < n) (hH : H i = true) (hp : p ≤ 8) (hpb : pb < w.heap.size) (hgb : gb < w.heap.size) (hZ : w.rowIs pb 3 n (fun q => .int .i64 (Z q))) (hB : w.rowIs gb 4 n (fun q => .bool (!H q))) :
    Calls Tryz.prog 68 #[.slice (some ⟨pb, 0, none⟩) n pc, .slice (some ⟨gb, 0, none⟩) n gc, .int .i64 i, .int .i64 p] w fun e w' => ∃ v, e = .returned v ∧ w'.ownsRow w.heap.size 3 1 v n (outOf (tryZ H Z i p) n) ∧ Below w.heap.size w w' := by
  obtain ⟨i0, hi0, hz0, hz1, hz2⟩ := info_parts Tryz.info3
  have HZ : Hid (w.rowIs pb 3 n (fun q => .int .i64 (Z q))) := hZ
  have HB : Hid (w.rowIs gb 4 n (fun q => .bool (!H q))) := hB
  have HH : Hid (H i = true) := hH
  clear hZ hB hH
  go_enter Tryz.func68, Tryz.ntmps68
  go_wp2_with fail
  go_loopw [9, 10, 11] (fun v uv jv wr => ∃ j : Nat, j ≤ n ∧ jv = .int .i64 j ∧ uv = .int .i64 ((p : Int) + 1 + (cntS (dropI H i) j : Int)) ∧ wr.ownsRow w.heap.size 3 1 v j (outOf (tryZ H Z i p) j) ∧ Below w.heap.size w wr) (fun _ _ jv _ => n - (intOf jv).toNat)
  case atStart => exact ⟨0, Nat.zero_le _, rfl, by simp [cntS], World.ownsRow_nil _ _ _ _, Below.refl _ _⟩
  case round =>
    obtain ⟨j, hj, rfl, rfl, hown, hbel⟩ := hrel
    have hsz := hbel.size
    have HBE : Hid (Below w.heap.size w wr) := hbel
    by_cases hlt : j < n
    · have y0 : wr.cell? ⟨pb, j, none⟩ = some (.int .i64 (Z j)) := (hbel.cell (p := ⟨pb, j, none⟩) hpb).trans (HZ.out.cell hlt)
      have y1 : wr.cell? ⟨gb, j, none⟩ = some (.bool (!H j)) := (hbel.cell (p := ⟨gb, j, none⟩) hgb).trans (HB.out.cell hlt)
      have hcl := cntS_le (H := dropI H i) j
      clear hbel
      rcases Bool.eq_false_or_eq_true (H j) with hg | hg
      · rw [hg] at y1
        by_cases e : j = i
        · have he : ((j : Int) == (i : Int)) = true := by simp; omega
          have HT : Hid ((p : Int) = tryZ H Z i p j) := by unfold Hid tryZ; rw [if_neg (by simp [hg]), if_pos e]
          have HC : Hid (cntS (dropI H i) (j + 1) = cntS (dropI H i) j) := by
            show cntS (dropI H i) j + (if dropI H i j = true then 1 else 0) = _
            rw [e, dropI_self, if_neg (by decide)]; rfl
          clear e hg
          go_wp2_with (at_builtin; refine wpList_append_own _ rfl _ _ 23 rfl w.heap.size 3 i0 (.int .i64 0) 1 8 Tryz.underlying23 hi0 hz0 hz1 hz2 rfl (by decide) _ _ _ rfl (hown.alloc _) ⟨wr.heap.size, 0, none⟩ 1 1 [.int .i64 (p : Int)] rfl rfl ?c1 ?c2 ?c3 ?c4 ?c5 ?_)
          case c1 => exact cell_one_at _ _ rfl _ _
          case c2 => exact one_oneCell rfl
          case c3 => unfold maxLen; omega
          case c4 => omega
          case c5 => simp; omega
          intro v5 w5 hown5 hg5 _
          have hb5 : Below w.heap.size w w5 := (HBE.out.alloc hsz _).grown hg5 (by simp; omega) (fun k hk => (hown.lt k hk).1)
          rw [outOf_next _ _ HT.out] at hown5
          have HO5 : Hid (w5.ownsRow w.heap.size 3 1 v5 (j + 1) (outOf (tryZ H Z i p) (j + 1))) := hown5
          have HB5 : Hid (Below w.heap.size w w5) := hb5
          clear hown5 hg5 hown hb5
          go_wp2
          go_roundw
          case rel => exact ⟨j + 1, by omega, by go_num, by rw [HC.out], HO5.out, HB5.out⟩
          case measure => simp [intOf]; omega
        · have he : ((j : Int) == (i : Int)) = false := by simp; omega
          have HT : Hid ((p : Int) + 1 + (cntS (dropI H i) j : Int) = tryZ H Z i p j) := by unfold Hid tryZ; rw [if_neg (by simp [hg]), if_neg e]
          have HC : Hid (cntS (dropI H i) (j + 1) = cntS (dropI H i) j + 1) := by
            show cntS (dropI H i) j + (if dropI H i j = true then 1 else 0) = _
            rw [dropI_ne e, if_pos hg]
          clear e hg
          generalize cntS (dropI H i) j = c at *
          go_wp2_with (at_builtin; refine wpList_append_own _ rfl _ _ 23 rfl w.heap.size 3 i0 (.int .i64 0) 1 8 Tryz.underlying23 hi0 hz0 hz1 hz2 rfl (by decide) _ _ _ rfl (hown.alloc _) ⟨wr.heap.size, 0, none⟩ 1 1 [.int .i64 ((p : Int) + 1 + (c : Int))] rfl rfl ?c1 ?c2 ?c3 ?c4 ?c5 ?_)
          case c1 => exact cell_one_at _ _ rfl _ _
          case c2 => exact one_oneCell rfl
          case c3 => unfold maxLen; omega
          case c4 => omega
          case c5 => simp; omega
          intro v5 w5 hown5 hg5 _
          have hb5 : Below w.heap.size w w5 := (HBE.out.alloc hsz _).grown hg5 (by simp; omega) (fun k hk => (hown.lt k hk).1)
          rw [outOf_next _ _ HT.out] at hown5
          have HO5 : Hid (w5.ownsRow w.heap.size 3 1 v5 (j + 1) (outOf (tryZ H Z i p) (j + 1))) := hown5
          have HB5 : Hid (Below w.heap.size w w5) := hb5
          clear hown5 hg5 hown hb5
          go_wp2
          go_roundw
          case rel => exact ⟨j + 1, by omega, by go_num, by rw [HC.out]; go_num, HO5.out, HB5.out⟩
          case measure => simp [intOf]; omega
      · rw [hg] at y1
        have HT : Hid (Z j = tryZ H Z i p j) := by unfold Hid tryZ; rw [if_pos hg]
        have HC : Hid (cntS (dropI H i) (j + 1) = cntS (dropI H i) j) := by
          show cntS (dropI H i) j + (if dropI H i j = true then 1 else 0) = _
          rw [if_neg (fun g => by have := (dropI_le g).1; rw [hg] at this; cases this)]; rfl
        clear hg
        go_wp2_with (at_builtin; refine wpList_append_own _ rfl _ _ 23 rfl w.heap.size 3 i0 (.int .i64 0) 1 8 Tryz.underlying23 hi0 hz0 hz1 hz2 rfl (by decide) _ _ _ rfl (hown.alloc _) ⟨wr.heap.size, 0, none⟩ 1 1 [.int .i64 (Z j)] rfl rfl ?c1 ?c2 ?c3 ?c4 ?c5 ?_)
        case c1 => exact cell_one_at _ _ rfl _ _
        case c2 => exact one_oneCell rfl
        case c3 => unfold maxLen; omega
        case c4 => omega
        case c5 => simp; omega
        intro v5 w5 hown5 hg5 _
        have hb5 : Below w.heap.size w w5 := (HBE.out.alloc hsz _).grown hg5 (by simp; omega) (fun k hk => (hown.lt k hk).1)
        rw [outOf_next _ _ HT.out] at hown5
        have HO5 : Hid (w5.ownsRow w.heap.size 3 1 v5 (j + 1) (outOf (tryZ H Z i p) (j + 1))) := hown5
        have HB5 : Hid (Below w.heap.size w w5) := hb5
        clear hown5 hg5 hown hb5
        go_wp2
        go_roundw
        case rel => exact ⟨j + 1, by omega, by go_num, by rw [HC.out], HO5.out, HB5.out⟩
        case measure => simp [intOf]; omega
    · obtain rfl : j = n := by omega
      clear hbel
      go_wp2
      go_ret
      exact ⟨_, rfl, hown, HBE.out⟩

end Go.Proofs.YtdabcflpcklfiaaGreat

/- The map of the sets that were tried: look up, put in. -/
namespace Go.Proofs.YtdabcflpcklfiaaGreat
open Go.RowKit

theorem Tryz.rowS : (128 : TypeId) < Tryz.prog.types.size := of_decide_eq_true (by kernel_rfl)
theorem Tryz.deepS : Tryz.prog.keyTypeAt 2 128 = true := by kernel_rfl
theorem Tryz.lawS : WideMaps.KeyLaw Tryz.prog 128 := deep_law_laid Tryz.laidM (m := 2) (by decide) Tryz.rowS Tryz.deepS (by rw [Tryz.underlying128])
theorem Tryz.keyedS : Maps.Keyed Tryz.prog 128 := Maps.Keyed.of_law Tryz.lawS
theorem Tryz.keyTypeS : Tryz.prog.keyType 128 = true := by kernel_rfl
theorem Tryz.cellsS : Tryz.prog.cellsOf 128 = 8 := by kernel_rfl
theorem Tryz.cel4 : Tryz.prog.cellsOf 4 = 1 := by kernel_rfl
theorem lits_bool (d : Nat) (b : Bool) : Tryz.prog.keyLits (d + 1) 4 [.bool b] = some [.bool b] := by
  unfold Program.keyLits
  rw [Tryz.underlying4]
theorem lits_set (d : Nat) (b0 b1 b2 b3 b4 b5 b6 b7 : Bool) : Tryz.prog.keyLits (d + 1 + 1) 128 [.bool b0, .bool b1, .bool b2, .bool b3, .bool b4, .bool b5, .bool b6, .bool b7] = some [.bool b0, .bool b1, .bool b2, .bool b3, .bool b4, .bool b5, .bool b6, .bool b7] := by
  have e := lits_bool d
  unfold Program.keyLits
  rw [Tryz.underlying128]
  simp only [Tryz.cellsS]
  simp [Tryz.cel4, e, List.range, List.range.loop]
def setL (H : Nat → Bool) : Lit := .string (keyBytes [.bool (H 0), .bool (H 1), .bool (H 2), .bool (H 3), .bool (H 4), .bool (H 5), .bool (H 6), .bool (H 7)])

theorem set_of (H : Nat → Bool) : keyOf Tryz.prog 128 (setV H) = some (setL H) := by
  obtain ⟨d, hd⟩ : ∃ d, Tryz.prog.types.size = d + 1 := ⟨236, by kernel_rfl⟩
  have e := lits_set d (H 0) (H 1) (H 2) (H 3) (H 4) (H 5) (H 6) (H 7)
  have hform : (setV H).formed Tryz.prog 128 = true := by
    simp only [setV, Value.formed, Tryz.underlying128, Tryz.cellsS]
    rfl
  unfold setL
  unfold keyOf
  rw [Tryz.underlying128]
  simp only [Tryz.keyTypeS, hform, hd, Bool.and_self, if_true]
  show (Tryz.prog.keyLits (d + 1 + 1) 128 [.bool (H 0), .bool (H 1), .bool (H 2), .bool (H 3), .bool (H 4), .bool (H 5), .bool (H 6), .bool (H 7)]).map _ = _
  rw [e]
  rfl

/-- Sets of the first eight numbers. -/
def In8 (H : Nat → Bool) : Prop := ∀ q, 8 ≤ q → H q = false

theorem in8_ext {H H' : Nat → Bool} (h : In8 H) (h' : In8 H') (e : ∀ q, q < 8 → H q = H' q) : H = H' := by
  funext q
  by_cases hq : q < 8
  · exact e q hq
  · rw [h q (by omega), h' q (by omega)]

theorem setL_inj {H H' : Nat → Bool} (h : In8 H) (h' : In8 H') (e : setL H = setL H') : H = H' := by
  have e := Tryz.keyedS.inj (set_of H) (e ▸ set_of H')
  simp [setV] at e
  obtain ⟨e0, e1, e2, e3, e4, e5, e6, e7⟩ := e
  refine in8_ext h h' (fun q hq => ?_)
  match q, hq with
  | 0, _ => exact e0
  | 1, _ => exact e1
  | 2, _ => exact e2
  | 3, _ => exact e3
  | 4, _ => exact e4
  | 5, _ => exact e5
  | 6, _ => exact e6
  | 7, _ => exact e7

/-- Block b is the map that has M's numbers at their sets, of at most n entries. -/
def SMap (w : World) (b n : Nat) (M : (Nat → Bool) → Option Int) : Prop :=
  ∃ D : DataW Unit, w.ownsMap Tryz.prog 128 (plainElem Tryz.prog 3) b n D ∧ ∀ H, In8 H → Maps.has D (setL H) = (M H).isSome ∧ ∀ x, M H = some x → D.atKey (setL H) (.lit (.int .i64 0)) = .lit (.int .i64 x)

theorem SMap.of_block {w w' : World} {b n : Nat} {M : (Nat → Bool) → Option Int} (h : SMap w b n M) (e : w'.heap[b]? = w.heap[b]?) : SMap w' b n M := by
  obtain ⟨D, ⟨es, clock, hb, F, hs, hD⟩, h2⟩ := h
  exact ⟨D, ⟨es, clock, e.trans hb, F, hs, hD⟩, h2⟩

theorem SMap.lt {w : World} {b n : Nat} {M : (Nat → Bool) → Option Int} (h : SMap w b n M) : b < w.heap.size := by
  obtain ⟨D, hown, _⟩ := h
  exact hown.lt

theorem SMap.ne {w : World} {b n : Nat} {M : (Nat → Bool) → Option Int} (h : SMap w b n M) {g t m : Nat} {f : Nat → Value} (hr : w.rowIs g t m f) : b ≠ g := by
  rintro rfl
  obtain ⟨D, ⟨es, clock, hb, _⟩, _⟩ := h
  obtain ⟨c, hc, _⟩ := hr
  rw [hb] at hc
  cases hc

theorem SMap.mono {w : World} {b n n' : Nat} {M : (Nat → Bool) → Option Int} (h : SMap w b n M) (e : n ≤ n') : SMap w b n' M := by
  obtain ⟨D, h1, h2⟩ := h
  exact ⟨D, h1.mono e, h2⟩

theorem SMap.made (w : World) : SMap (w.alloc (.map #[] 0)) w.heap.size 0 (fun _ => none) :=
  ⟨.map [], World.ownsMap_made _ _ _ _, fun _ _ => ⟨by simp [Maps.has], fun x h => by cases h⟩⟩

theorem Tryz.zeroI (w : World) : (zeroValue 3).run Tryz.prog w = .ok (.int .i64 0) w := by kernel_rfl

/-- Looking up, and whether there was one. -/
theorem run_slook {w : World} {b n : Nat} {M : (Nat → Bool) → Option Int} {H : Nat → Bool} (h8 : In8 H) (hj : SMap w b n M) :
    ∃ c, (Instr.lookup 172 (.map (some b)) (setV H) true).run Tryz.prog w = .ok (.tuple #[.int .i64 c, .bool (M H).isSome]) w ∧ ∀ x, M H = some x → c = x := by
  obtain ⟨D, hown, hat⟩ := hj
  obtain ⟨h1, h2⟩ := hat H h8
  obtain ⟨v, ps, hrun, hv⟩ := hown.look_ok Tryz.keyedS Tryz.underlying172 (Tryz.zeroI w) (zd := .lit (.int .i64 0)) (zp := []) (plainElem_int Tryz.underlying3 (by decide)) (set_of H)
  obtain ⟨c, rfl, hc, _⟩ := plainElem_int_inv Tryz.underlying3 hv
  refine ⟨c, by rw [← h1]; exact hrun, fun x hx => ?_⟩
  have := h2 x hx
  have hc' := congrArg Prod.fst hc
  simp only at hc'
  rw [this] at hc'
  simp at hc'
  exact hc'.symm

/-- Looking up a set that is there. -/
theorem run_slook1 {w : World} {b n : Nat} {M : (Nat → Bool) → Option Int} {H : Nat → Bool} {x : Int} (h8 : In8 H) (hj : SMap w b n M) (hx : M H = some x) :
    (Instr.lookup 172 (.map (some b)) (setV H) false).run Tryz.prog w = .ok (.int .i64 x) w := by
  obtain ⟨D, hown, hat⟩ := hj
  obtain ⟨c, hrun, hc, _⟩ := hown.lookup_int Tryz.keyedS Tryz.underlying172 Tryz.underlying3 (Tryz.zeroI w) (set_of H)
  have := (hat H h8).2 x hx
  rw [this] at hc
  simp at hc
  rw [hrun, hc]

def sput (M : (Nat → Bool) → Option Int) (H : Nat → Bool) (x : Int) (H' : Nat → Bool) : Option Int := if H' 0 = H 0 ∧ H' 1 = H 1 ∧ H' 2 = H 2 ∧ H' 3 = H 3 ∧ H' 4 = H 4 ∧ H' 5 = H 5 ∧ H' 6 = H 6 ∧ H' 7 = H 7 then some x else M H'

theorem sput_self {M : (Nat → Bool) → Option Int} {H : Nat → Bool} {x : Int} : sput M H x H = some x := if_pos ⟨rfl, rfl, rfl, rfl, rfl, rfl, rfl, rfl⟩
theorem sput_ne {M : (Nat → Bool) → Option Int} {H H' : Nat → Bool} {x : Int} (h8 : In8 H) (h8' : In8 H') (h : H' ≠ H) : sput M H x H' = M H' := if_neg (fun ⟨a0, a1, a2, a3, a4, a5, a6, a7⟩ => h (in8_ext h8' h8 (fun q hq =>
  match q, hq with
  | 0, _ => a0
  | 1, _ => a1
  | 2, _ => a2
  | 3, _ => a3
  | 4, _ => a4
  | 5, _ => a5
  | 6, _ => a6
  | 7, _ => a7)))

/-- Putting in. -/
theorem run_sput {w : World} {b n : Nat} {M : (Nat → Bool) → Option Int} {H : Nat → Bool} {x : Int} (h8 : In8 H) (hn : n < maxLen) (hx : (Lit.int .i64 x).wf = true) (hj : SMap w b n M) :
    ∃ w', (Instr.mapUpdate 172 (.map (some b)) (setV H) (.int .i64 x)).run Tryz.prog w = .ok () w' ∧ SMap w' b (n + 1) (sput M H x) ∧ Fr (fun i => i = b) w w' := by
  obtain ⟨D, hown, hat⟩ := hj
  have hmap : Maps.IsMap D := hown.isMap
  obtain ⟨w', hrun, hown', ht⟩ := hown.store Tryz.keyedS Tryz.underlying172 hn (set_of H) (plainElem_int Tryz.underlying3 hx)
  refine ⟨w', hrun, ⟨_, hown', fun H' h8' => ?_⟩, fr_turned ht⟩
  by_cases e : H' = H
  · subst e
    rw [sput_self]
    refine ⟨by rw [Maps.has_put_same hmap (Tryz.keyedS.key (set_of H'))]; rfl, fun y hy => ?_⟩
    rw [Maps.atKey_put_same hmap (Tryz.keyedS.key (set_of H'))]
    cases hy
    rfl
  · rw [sput_ne h8 h8' e]
    have hne : setL H' ≠ setL H := fun h => e (setL_inj h8' h8 h)
    rw [Maps.has_put_other hne, Maps.atKey_put_other hne]
    exact hat H' h8'

end Go.Proofs.YtdabcflpcklfiaaGreat

/- A set without one of its tasks. -/
namespace Go.Proofs.YtdabcflpcklfiaaGreat
open Go.RowKit

set_option maxRecDepth 100000 in
set_option maxHeartbeats 1000000 in
theorem without_any (H : Nat → Bool) (i : Nat) (w : World) (hi : i < 8) :
    Calls Tryz.prog 99 #[setV H, .int .i64 i] w fun e w' => e = .returned (setV (dropI H i)) ∧ Below w.heap.size w w' := by
  have HSET : Hid (((w.alloc (.cells #[.bool (H 0), .bool (H 1), .bool (H 2), .bool (H 3), .bool (H 4), .bool (H 5), .bool (H 6), .bool (H 7)] 128)).alloc (.cells #[.bool false, .bool false, .bool false, .bool false, .bool false, .bool false, .bool false, .bool false] 128)).rowIs w.heap.size 128 8 (fun q => .bool (H q)) ∧
      ((w.alloc (.cells #[.bool (H 0), .bool (H 1), .bool (H 2), .bool (H 3), .bool (H 4), .bool (H 5), .bool (H 6), .bool (H 7)] 128)).alloc (.cells #[.bool false, .bool false, .bool false, .bool false, .bool false, .bool false, .bool false, .bool false] 128)).rowIs (w.heap.size + 1) 128 8 fls ∧
      Below w.heap.size w ((w.alloc (.cells #[.bool (H 0), .bool (H 1), .bool (H 2), .bool (H 3), .bool (H 4), .bool (H 5), .bool (H 6), .bool (H 7)] 128)).alloc (.cells #[.bool false, .bool false, .bool false, .bool false, .bool false, .bool false, .bool false, .bool false] 128))) :=
    ⟨(set_row w H).alloc _, false8 _ 128 _ (by simp), (below_alloc1 _ _).alloc (by simp) _⟩
  unfold setV
  go_enter Tryz.func99, Tryz.ntmps99
  go_wp2_with (refine wpList_abs 4 (.tmp 6) (.const (.bool false)) rfl (fun w' => w'.rowIs w.heap.size 128 8 (fun q => .bool (H q)) ∧ w'.rowIs (w.heap.size + 1) 128 8 fls ∧ Below w.heap.size w w') HSET.out ?_)
  intro W0 hW0
  have hz0 : W0.frozen? ⟨w.heap.size, i, none⟩ = false := hW0.1.frozen i
  have hc0 : W0.cell? ⟨w.heap.size, i, none⟩ = some (.bool (H i)) := hW0.1.cell hi
  have hset : (W0.setCell ⟨w.heap.size, i, none⟩ (.bool false)).rowIs w.heap.size 128 8 (fun q => .bool (dropI H i q)) := (hW0.1.set i (.bool false)).congr (fun q _ => by
    unfold dropI
    by_cases e : q = i
    · simp [e]
    · simp [e])
  have HR2 : Hid ((W0.setCell ⟨w.heap.size, i, none⟩ (.bool false)).heap[w.heap.size + 1]? = some (.cells #[.bool false, .bool false, .bool false, .bool false, .bool false, .bool false, .bool false, .bool false] 128 (0, 0))) := row8 (hW0.2.1.setOther (by show w.heap.size + 1 ≠ w.heap.size; omega) _)
  have HP2 : Hid ((W0.setCell ⟨w.heap.size, i, none⟩ (.bool false)).heap[w.heap.size]? = some (.cells #[.bool (dropI H i 0), .bool (dropI H i 1), .bool (dropI H i 2), .bool (dropI H i 3), .bool (dropI H i 4), .bool (dropI H i 5), .bool (dropI H i 6), .bool (dropI H i 7)] 128 (0, 0))) := row8 hset
  have HBA : Hid (Below w.heap.size w (W0.setCell ⟨w.heap.size, i, none⟩ (.bool false))) := hW0.2.2.setCell (Nat.le_refl _) _
  clear hset hW0
  go_wp2_with (first | (refine wpList_load_row rfl 128 (.tmp 2) rfl w.heap.size rfl 128 #[.bool (dropI H i 0), .bool (dropI H i 1), .bool (dropI H i 2), .bool (dropI H i 3), .bool (dropI H i 4), .bool (dropI H i 5), .bool (dropI H i 6), .bool (dropI H i 7)] (0, 0) _ HP2.out Tryz.underlying128 rfl (by kernel_rfl) ?_) | (refine wpList_store_row rfl 128 (.tmp 4) (.tmp 7) rfl (w.heap.size + 1) #[.bool (dropI H i 0), .bool (dropI H i 1), .bool (dropI H i 2), .bool (dropI H i 3), .bool (dropI H i 4), .bool (dropI H i 5), .bool (dropI H i 6), .bool (dropI H i 7)] rfl rfl 128 #[.bool false, .bool false, .bool false, .bool false, .bool false, .bool false, .bool false, .bool false] HR2.out (by kernel_rfl) rfl (all8 _ _ _ _ _ _ _ _) ?_))
  refine bodyPost_ret (results_cell_row rfl _ _ (w.heap.size + 1) 128 _ (0, 0) _ rfl (setRow_heap _ _ _ _ _ _ HR2.out) Tryz.underlying128 rfl (by kernel_rfl)) rfl ⟨rfl, ?_⟩
  exact HBA.out.trans ⟨rfl, rfl, rfl, by simp, fun q hq => setRow_other _ _ _ _ (by omega)⟩

end Go.Proofs.YtdabcflpcklfiaaGreat
