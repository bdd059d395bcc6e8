import Derived.Test.YtdabcflpcklfiaaK27
import Derived.Test.YtdabcflpcklfiaaWy
namespace Go.Proofs.Ytdabcflpcklfiaa
open Go.RowKit

/-- How Analyze comes out. -/
def Outc (T : TD) (Z : Nat → Int) (n pn : Nat) (E A : Int) (m : Nat) : Prop :=
  (m = 0 ∧ chkR T n = (E, A) ∧ E ≠ 0) ∨ (m = 0 ∧ chkR T n = (0, 0) ∧ E = 4 ∧ A = 0 ∧ (pn ≠ n ∨ pn = n ∧ ¬ Cad.PrioB Z n)) ∨ (m = n ∧ chkR T n = (0, 0) ∧ E = 0 ∧ A = 0 ∧ pn = n ∧ Cad.PrioB Z n)

theorem outc_ex (T : TD) (Z : Nat → Int) (n pn : Nat) : ∃ E A m, Outc T Z n pn E A m ∧ m ≤ 8 := by
  obtain ⟨x, y, hxy⟩ : ∃ x y, chkR T n = (x, y) := ⟨_, _, rfl⟩
  by_cases hx : x = 0
  · subst hx
    obtain ⟨hg, hy⟩ := good_of_chk hxy
    subst hy
    by_cases hp : pn = n ∧ Cad.PrioB Z n
    · exact ⟨0, 0, n, .inr (.inr ⟨rfl, hxy, rfl, rfl, hp.1, hp.2⟩), hg.eight⟩
    · refine ⟨4, 0, 0, .inr (.inl ⟨rfl, hxy, rfl, rfl, ?_⟩), by omega⟩
      by_cases e : pn = n
      · exact .inr ⟨e, fun h => hp ⟨e, h⟩⟩
      · exact .inl e
  · exact ⟨x, y, 0, .inl ⟨rfl, hxy, hx⟩, by omega⟩

theorem outc_lent {T : TD} {S : Nat → Nat} {Z : Nat → Int} {n pn m : Nat} {E A : Int} (h : Outc T Z n pn E A m) : Outc (T.lent S) Z n pn E A m := h

/-- A list of numbers that came out of the program's Analyze. -/
def OutX (B : Nat) (w' : World) (m : Nat) (xv : Value) (X : Nat → Int) : Prop :=
  (xv = .slice none 0 0 ∧ m = 0) ∨ ∃ g, xv = .slice (some ⟨g, 0, none⟩) m m ∧ B ≤ g ∧ w'.rowIs g 3 m (fun q => .int .i64 (X q))

theorem code_all (b off n cap : Nat) (ao : Option Addr) (pn pc : Nat) (T : TD) (Z : Nat → Int) (E A : Int) (m : Nat) (w : World) (hm : n ≤ 9223372036854775807) (ho : Outc T Z n pn E A m) (hb : b < w.heap.size) (hT : TasksAt w b off n T)
    (hZ : 1 ≤ pn → ∃ pb po, ao = some ⟨pb, po, none⟩ ∧ pb < w.heap.size ∧ IntsAt w pb po pn Z) :
    Calls Try.prog 16 #[.slice (some ⟨b, off, none⟩) n cap, .slice ao pn pc] w fun e w' => ∃ xv X, e = .returned (.tuple #[xv, .int .i64 E, .int .i64 A]) ∧ OutX w.heap.size w' m xv X ∧ (∀ i, i < m → CodeB T Z n i (X i)) ∧ Below w.heap.size w w' := by
  rcases ho with ⟨rfl, hc, hE⟩ | ⟨rfl, hc, rfl, rfl, hor⟩ | ⟨rfl, hc, rfl, rfl, rfl, hp⟩
  · refine (ana_err b off n cap _ T E A w hc hE hm hb hT).mono ?_
    rintro e w' ⟨rfl, hb'⟩
    exact ⟨_, fun _ => 0, rfl, .inl ⟨rfl, rfl⟩, fun i hi => by omega, hb'⟩
  · have h1 := (good_of_chk hc).1.one
    refine (ana_ord b off n cap ao pn pc T w hc hb hT ?_).mono ?_
    · rcases hor with h | ⟨h, hno⟩
      · exact .inl h
      · obtain ⟨pb, po, e, hpb, hz⟩ := hZ (by omega)
        exact .inr ⟨pb, po, Z, e, h, hpb, by rw [← h]; exact hz, hno⟩
    · rintro e w' ⟨rfl, hb'⟩
      exact ⟨_, fun _ => 0, rfl, .inl ⟨rfl, rfl⟩, fun i hi => by omega, hb'⟩
  · have h1 := (good_of_chk hc).1.one
    obtain ⟨pb, po, rfl, hpb, hz⟩ := hZ h1
    refine (ana_ok b off _ cap pb po pc T Z w hc hb hpb hT hz hp).mono ?_
    rintro e w' ⟨g, R, rfl, hg, hr, hR, hb'⟩
    exact ⟨_, R, rfl, .inr ⟨g, rfl, hg, hr⟩, hR, hb'⟩

/-- A list of numbers that came out of the document's Analyze. -/
def OutY (w' : World) (m : Nat) (yv : Value) (Y : Nat → Int) : Prop := ∃ ao cap, yv = .slice ao m cap ∧ (1 ≤ m → ∃ b off, ao = some ⟨b, off, none⟩ ∧ IntsAt w' b off m Y)

theorem outY_own {w w' : World} {n : Nat} {v : Value} {R : Nat → Int} (h : w'.ownsRow w.heap.size 3 1 v n (outOf R n)) : OutY w' n v R := by
  obtain ⟨ao, cap, hv⟩ := own_shape2 h
  refine ⟨ao, cap, hv, fun h1 => ?_⟩
  obtain ⟨k, rfl⟩ : ∃ k, n = k + 1 := ⟨n - 1, by omega⟩
  obtain ⟨g, c2, hv2⟩ := own_slice h
  rw [hv] at hv2
  cases hv2
  refine ⟨g, 0, rfl, fun i hi => ?_⟩
  have := h.cells (g := g) (by rw [hv]; rfl) i (.int .i64 (R i)) (by simp [outOf, hi])
  rw [Addr.add_lit] at this
  exact this

theorem ref_allA (b off n cap : Nat) (ao : Option Addr) (pn pc : Nat) (T : TD) (Z : Nat → Int) (E A : Int) (m : Nat) (w : World) (hm : n ≤ 9223372036854775807) (ho : Outc T Z n pn E A m) (hb : b < w.heap.size) (hT : TasksAt w b off n T)
    (hZ : 1 ≤ pn → ∃ pb po, ao = some ⟨pb, po, none⟩ ∧ pb < w.heap.size ∧ IntsAt w pb po pn Z) :
    Calls Try.prog 36 #[.slice (some ⟨b, off, none⟩) n cap, .slice ao pn pc] w fun e w' => ∃ yv Y, e = .returned (.tuple #[yv, .int .i64 E, .int .i64 A]) ∧ OutY w' m yv Y ∧ (∀ i, i < m → RefB T Z n i (Y i)) ∧ Below w.heap.size w w' := by
  rcases ho with ⟨rfl, hc, hE⟩ | ⟨rfl, hc, rfl, rfl, hor⟩ | ⟨rfl, hc, rfl, rfl, rfl, hp⟩
  · refine (refana_err b off n cap _ T E A w hc hE hm hb hT).mono ?_
    rintro e w' ⟨rfl, hb'⟩
    exact ⟨_, fun _ => 0, rfl, ⟨_, _, rfl, fun h => by omega⟩, fun i hi => by omega, hb'⟩
  · have h1 := (good_of_chk hc).1.one
    refine (refana_ord b off n cap ao pn pc T w hc hb hT ?_).mono ?_
    · rcases hor with h | ⟨h, hno⟩
      · exact .inl h
      · obtain ⟨pb, po, e, hpb, hz⟩ := hZ (by omega)
        exact .inr ⟨pb, po, Z, e, h, hpb, by rw [← h]; exact hz, fun g => hno ((Cad.order_iff Z n).1 g)⟩
    · rintro e w' ⟨rfl, hb'⟩
      exact ⟨_, fun _ => 0, rfl, ⟨_, _, rfl, fun h => by omega⟩, fun i hi => by omega, hb'⟩
  · have h1 := (good_of_chk hc).1.one
    obtain ⟨pb, po, rfl, hpb, hz⟩ := hZ h1
    refine (refana_ok b off _ cap pb po pc T Z w hc hb hpb hT hz ((Cad.order_iff Z _).2 hp)).mono ?_
    rintro e w' ⟨v, R, rfl, hown, hR, hb'⟩
    exact ⟨_, R, rfl, outY_own hown, hR, hb'⟩

/-- Both come out with the same numbers. -/
theorem outc_same {T : TD} {Z : Nat → Int} {n pn m : Nat} {E A : Int} {X Y : Nat → Int} (ho : Outc T Z n pn E A m) (hX : ∀ i, i < m → CodeB T Z n i (X i)) (hY : ∀ i, i < m → RefB T Z n i (Y i)) : ∀ i, i < m → X i = Y i := by
  intro i hi
  rcases ho with ⟨rfl, _⟩ | ⟨rfl, _⟩ | ⟨rfl, hc, _, _, _, hp⟩
  · omega
  · omega
  · obtain ⟨s, h1, h2⟩ := hX i hi
    obtain ⟨s', h3, h4⟩ := hY i hi
    exact bound_ref (good_of_chk hc).1 hi hp h1 h2 h3 h4

set_option maxRecDepth 100000 in
set_option maxHeartbeats 1000000 in
theorem refana_none (ao : Option Addr) (cap : Nat) (pv : Value) (w : World) :
    Calls Try.prog 36 #[.slice ao 0 cap, pv] w fun e w' => e = .returned (.tuple #[.slice none 0 0, .int .i64 1, .int .i64 0]) ∧ Below w.heap.size w w' := by
  go_enter Try.func36, Try.ntmps36
  go_wp2_with fail
  refine (ref_many _ 0 _ _ (by omega) (by omega)).mono ?_
  rintro e w1 ⟨rfl, hw1⟩
  obtain rfl := hw1.symm
  clear hw1
  go_wp2
  go_ret3
  exact ⟨rfl, Below.refl _ _⟩

theorem OutX.shape {B m : Nat} {w : World} {xv : Value} {X : Nat → Int} (h : OutX B w m xv X) : ∃ xo xc, xv = .slice xo m xc := by
  rcases h with ⟨rfl, rfl⟩ | ⟨g, rfl, _⟩
  · exact ⟨_, _, rfl⟩
  · exact ⟨_, _, rfl⟩

theorem OutX.ints {B m xc : Nat} {w w' : World} {xo : Option Addr} {X : Nat → Int} (h : OutX B w m (.slice xo m xc) X) (hb : Below w.heap.size w w') : 1 ≤ m → ∃ b off, xo = some ⟨b, off, none⟩ ∧ IntsAt w' b off m X := by
  intro h1
  rcases h with ⟨_, h0⟩ | ⟨g, e, _, hr⟩
  · omega
  · cases e
    refine ⟨g, 0, rfl, fun i hi => ?_⟩
    rw [Nat.zero_add]
    exact (row_below hr hb).cell hi

theorem OutX.keep {B B0 m : Nat} {w w' : World} {xv : Value} {X : Nat → Int} (h : OutX B w m xv X) (hB : B0 ≤ B) (hf : ∀ g, B ≤ g → g < w.heap.size → w'.heap[g]? = w.heap[g]?) : KeepL w' B0 m xv := by
  rcases h with ⟨rfl, rfl⟩ | ⟨g, rfl, hg, hr⟩
  · exact .inl ⟨rfl, rfl⟩
  · exact .inr ⟨g, _, rfl, by omega, hr.of_block (hf g hg hr.lt)⟩

end Go.Proofs.Ytdabcflpcklfiaa
