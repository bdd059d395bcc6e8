import Derived.Test.YtdabcflpcklfiaaNa
/- A kernel beside memory that is not its own. -/
namespace Go.Proofs.Ytdabcflpcklfiaa
open Go.RowKit Cad

/-- A kernel that owns none of the blocks 'own'. -/
def KSt (own : Nat → Prop) (w : World) (kb : Nat) (S : Sy) (m : Mc) : Prop := ∃ Y, KAt w kb S m Y ∧ ∀ q, footK kb S m Y q → ¬ own q

theorem KSt.ok {own : Nat → Prop} {w : World} {kb : Nat} {S : Sy} {m : Mc} (h : KSt own w kb S m) : Ok S m := by
  obtain ⟨Y, hk, _⟩ := h
  exact hk.ok

theorem KSt.below {own : Nat → Prop} {w w' : World} {kb : Nat} {S : Sy} {m : Mc} (h : KSt own w kb S m) (hb : Below w.heap.size w w') : KSt own w' kb S m := by
  obtain ⟨Y, hk, ho⟩ := h
  exact ⟨Y, hk.below hb, ho⟩

/-- Other blocks are written. -/
theorem KSt.other {own : Nat → Prop} {w w' : World} {kb : Nat} {S : Sy} {m : Mc} (h : KSt own w kb S m) (hb : Fr own w w') : KSt own w' kb S m := by
  obtain ⟨Y, hk, ho⟩ := h
  exact ⟨Y, hk.same (fun b hf => hb.block b (hk.foot_lt hf) (ho b hf)), ho⟩

/-- New blocks are nobody's but their maker's. -/
theorem KSt.more {own own' : Nat → Prop} {w : World} {kb : Nat} {S : Sy} {m : Mc} (h : KSt own w kb S m) (hx : ∀ q, own' q → own q ∨ w.heap.size ≤ q) : KSt own' w kb S m := by
  obtain ⟨Y, hk, ho⟩ := h
  refine ⟨Y, hk, fun q hq ho' => ?_⟩
  rcases hx q ho' with h1 | h1
  · exact ho q hq h1
  · have := hk.foot_lt hq; omega

theorem KSt.moved {own : Nat → Prop} {w w' : World} {kb : Nat} {S : Sy} {m m' : Mc} {Y Y' : Lay} (hown : ∀ q, own q → q < w.heap.size) (ho : ∀ q, footK kb S m Y q → ¬ own q) (h : KMoved kb S m m' Y Y' w w') : KSt own w' kb S m' ∧ Fr (fun q => ¬ own q) w w' := by
  refine ⟨⟨Y', h.kat, fun q hq hoq => ?_⟩, h.fr.mono (fun q hq => ho q hq)⟩
  rcases h.foot q hq with h1 | h1
  · exact ho q h1 hoq
  · have := hown q hoq; omega

theorem kst_tick {own : Nat → Prop} {w : World} {kb : Nat} {S : Sy} {m : Mc} (hown : ∀ q, own q → q < w.heap.size) (h : KSt own w kb S m) (hnow : m.now < 1000000000000000000) :
    Calls Try.prog 25 #[.pointer (some ⟨kb, 0, none⟩)] w fun e w' => e = .returned (.tuple #[.int .i64 (tick S m).2.1, .bool (tick S m).2.2]) ∧ KSt own w' kb S (tick S m).1 ∧ Fr (fun q => ¬ own q) w w' := by
  obtain ⟨Y, hk, ho⟩ := h
  refine (ktick_any kb S m Y w hk hnow).mono ?_
  rintro e w' ⟨he, Y', hm⟩
  exact ⟨he, KSt.moved hown ho hm⟩

theorem kst_arrive {own : Nat → Prop} {w : World} {kb : Nat} {S : Sy} {m : Mc} (x jit : Int) (db dof d dc : Nat) (D : Nat → Int) (ao : Option Addr) (hown : ∀ q, own q → q < w.heap.size) (h : KSt own w kb S m) (har : m.arrd < 1000000000000000000) (hd : d ≤ 9223372036854775806)
    (hD : 1 ≤ d → ao = some ⟨db, dof, none⟩ ∧ db < w.heap.size ∧ IntsIn w db dof d D) :
    Calls Try.prog 29 #[.pointer (some ⟨kb, 0, none⟩), .int .i64 x, .int .i64 jit, .slice ao d dc] w fun e w' => e = .returned (.int .i64 (arrive S m x jit D d).2) ∧ KSt own w' kb S (arrive S m x jit D d).1 ∧ Fr (fun q => ¬ own q) w w' := by
  obtain ⟨Y, hk, ho⟩ := h
  refine (karrive_any kb S m Y x jit db dof d dc D ao w hk har hd hD).mono ?_
  rintro e w' ⟨he, Y', hm⟩
  exact ⟨he, KSt.moved hown ho hm⟩

/-- What lies below is everybody's but the kernel's. -/
theorem fr_below {B : Nat} {w w' : World} (h : Fr (fun q => ¬ q < B) w w') (hB : B ≤ w.heap.size) : Below B w w' := h.below hB (fun i hi => by omega)

/-! ### the example runs -/

def exS : Sy := { n := 3, P := exP, J := exJ, Z := exZ, L := exL, K := exK, N := exN, C := ceilI exK exN exL exZ 3 }
theorem exS_is (B : Nat) : sysOf (exT B) exZ 3 = exS := rfl

def exDa (i : Nat) : Int := if i = 0 then 5 else 1
def exDb (i : Nat) : Int := if i = 0 then 1 else 2
def ex1 : Mc := (arrive exS Cad.start 2 0 exDa 2).1
def ex2 : Mc := (tick exS ex1).1
def ex3 : Mc := (arrive exS ex2 0 0 exDb 2).1
def exTo : Nat → Mc
  | 0 => ex3
  | k + 1 => (tick exS (exTo k)).1

theorem ex1_res : (arrive exS Cad.start 2 0 exDa 2).2 = 0 := by decide
theorem ex2_res : (tick exS ex1).2.1 = 2 := by decide
theorem ex3_res : (arrive exS ex2 0 0 exDb 2).2 = 0 := by decide
theorem exTo_res : ∀ k, k < 4 → (tick exS (exTo k)).2.1 = 2 := by decide
theorem ex8_res : (tick exS (exTo 4)).2.1 = 0 := by decide
theorem ex10_res : (tick exS (exTo 6)).2.1 = 0 ∧ (tick exS (exTo 6)).2.2 = true := by decide
theorem ex1_small : ex1.now < 1000000000000000000 ∧ ex1.arrd < 1000000000000000000 := by decide
theorem ex2_small : ex2.now < 1000000000000000000 ∧ ex2.arrd < 1000000000000000000 := by decide
theorem exTo_small : ∀ k, k < 8 → (exTo k).now < 1000000000000000000 := by decide

end Go.Proofs.Ytdabcflpcklfiaa
