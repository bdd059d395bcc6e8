import Derived.Test.YtdabcflpcklfiaaPa
import Derived.Test.YtdabcflpcklfiaaK02
/- The map of the sets that were tried: look up, put in. -/
namespace Go.Proofs.Ytdabcflpcklfiaa
open Go.RowKit

theorem Try.rowS : (86 : TypeId) < Try.prog.types.size := of_decide_eq_true (by kernel_rfl)
theorem Try.deepS : Try.prog.keyTypeAt 2 86 = true := by kernel_rfl
theorem Try.lawS : WideMaps.KeyLaw Try.prog 86 := deep_law_laid Try.laidM (m := 2) (by decide) Try.rowS Try.deepS (by rw [Try.underlying86])
theorem Try.keyedS : Maps.Keyed Try.prog 86 := Maps.Keyed.of_law Try.lawS
theorem Try.keyTypeS : Try.prog.keyType 86 = true := by kernel_rfl
theorem Try.cellsS : Try.prog.cellsOf 86 = 8 := by kernel_rfl
theorem Try.cel4 : Try.prog.cellsOf 4 = 1 := by kernel_rfl
theorem lits_bool (d : Nat) (b : Bool) : Try.prog.keyLits (d + 1) 4 [.bool b] = some [.bool b] := by
  unfold Program.keyLits
  rw [Try.underlying4]
theorem lits_set (d : Nat) (b0 b1 b2 b3 b4 b5 b6 b7 : Bool) : Try.prog.keyLits (d + 1 + 1) 86 [.bool b0, .bool b1, .bool b2, .bool b3, .bool b4, .bool b5, .bool b6, .bool b7] = some [.bool b0, .bool b1, .bool b2, .bool b3, .bool b4, .bool b5, .bool b6, .bool b7] := by
  have e := lits_bool d
  unfold Program.keyLits
  rw [Try.underlying86]
  simp only [Try.cellsS]
  simp [Try.cel4, e, List.range, List.range.loop]
def setL (H : Nat → Bool) : Lit := .string (keyBytes [.bool (H 0), .bool (H 1), .bool (H 2), .bool (H 3), .bool (H 4), .bool (H 5), .bool (H 6), .bool (H 7)])

theorem set_of (H : Nat → Bool) : keyOf Try.prog 86 (setV H) = some (setL H) := by
  obtain ⟨d, hd⟩ : ∃ d, Try.prog.types.size = d + 1 := ⟨220, by kernel_rfl⟩
  have e := lits_set d (H 0) (H 1) (H 2) (H 3) (H 4) (H 5) (H 6) (H 7)
  have hform : (setV H).formed Try.prog 86 = true := by
    simp only [setV, Value.formed, Try.underlying86, Try.cellsS]
    rfl
  unfold setL
  unfold keyOf
  rw [Try.underlying86]
  simp only [Try.keyTypeS, hform, hd, Bool.and_self, if_true]
  show (Try.prog.keyLits (d + 1 + 1) 86 [.bool (H 0), .bool (H 1), .bool (H 2), .bool (H 3), .bool (H 4), .bool (H 5), .bool (H 6), .bool (H 7)]).map _ = _
  rw [e]
  rfl

/-- Sets of the first eight numbers. -/
def In8 (H : Nat → Bool) : Prop := ∀ q, 8 ≤ q → H q = false

theorem in8_ext {H H' : Nat → Bool} (h : In8 H) (h' : In8 H') (e : ∀ q, q < 8 → H q = H' q) : H = H' := by
  funext q
  by_cases hq : q < 8
  · exact e q hq
  · rw [h q (by omega), h' q (by omega)]

theorem setL_inj {H H' : Nat → Bool} (h : In8 H) (h' : In8 H') (e : setL H = setL H') : H = H' := by
  have e := Try.keyedS.inj (set_of H) (e ▸ set_of H')
  simp [setV] at e
  obtain ⟨e0, e1, e2, e3, e4, e5, e6, e7⟩ := e
  refine in8_ext h h' (fun q hq => ?_)
  match q, hq with
  | 0, _ => exact e0
  | 1, _ => exact e1
  | 2, _ => exact e2
  | 3, _ => exact e3
  | 4, _ => exact e4
  | 5, _ => exact e5
  | 6, _ => exact e6
  | 7, _ => exact e7

/-- Block b is the map that has M's numbers at their sets, of at most n entries. -/
def SMap (w : World) (b n : Nat) (M : (Nat → Bool) → Option Int) : Prop :=
  ∃ D : DataW Unit, w.ownsMap Try.prog 86 (plainElem Try.prog 3) b n D ∧ ∀ H, In8 H → Maps.has D (setL H) = (M H).isSome ∧ ∀ x, M H = some x → D.atKey (setL H) (.lit (.int .i64 0)) = .lit (.int .i64 x)

theorem SMap.of_block {w w' : World} {b n : Nat} {M : (Nat → Bool) → Option Int} (h : SMap w b n M) (e : w'.heap[b]? = w.heap[b]?) : SMap w' b n M := by
  obtain ⟨D, ⟨es, clock, hb, F, hs, hD⟩, h2⟩ := h
  exact ⟨D, ⟨es, clock, e.trans hb, F, hs, hD⟩, h2⟩

theorem SMap.lt {w : World} {b n : Nat} {M : (Nat → Bool) → Option Int} (h : SMap w b n M) : b < w.heap.size := by
  obtain ⟨D, hown, _⟩ := h
  exact hown.lt

theorem SMap.ne {w : World} {b n : Nat} {M : (Nat → Bool) → Option Int} (h : SMap w b n M) {g t m : Nat} {f : Nat → Value} (hr : w.rowIs g t m f) : b ≠ g := by
  rintro rfl
  obtain ⟨D, ⟨es, clock, hb, _⟩, _⟩ := h
  obtain ⟨c, hc, _⟩ := hr
  rw [hb] at hc
  cases hc

theorem SMap.mono {w : World} {b n n' : Nat} {M : (Nat → Bool) → Option Int} (h : SMap w b n M) (e : n ≤ n') : SMap w b n' M := by
  obtain ⟨D, h1, h2⟩ := h
  exact ⟨D, h1.mono e, h2⟩

theorem SMap.made (w : World) : SMap (w.alloc (.map #[] 0)) w.heap.size 0 (fun _ => none) :=
  ⟨.map [], World.ownsMap_made _ _ _ _, fun _ _ => ⟨by simp [Maps.has], fun x h => by cases h⟩⟩

theorem Try.zeroI (w : World) : (zeroValue 3).run Try.prog w = .ok (.int .i64 0) w := by kernel_rfl

/-- Looking up, and whether there was one. -/
theorem run_slook {w : World} {b n : Nat} {M : (Nat → Bool) → Option Int} {H : Nat → Bool} (h8 : In8 H) (hj : SMap w b n M) :
    ∃ c, (Instr.lookup 119 (.map (some b)) (setV H) true).run Try.prog w = .ok (.tuple #[.int .i64 c, .bool (M H).isSome]) w ∧ ∀ x, M H = some x → c = x := by
  obtain ⟨D, hown, hat⟩ := hj
  obtain ⟨h1, h2⟩ := hat H h8
  obtain ⟨v, ps, hrun, hv⟩ := hown.look_ok Try.keyedS Try.underlying119 (Try.zeroI w) (zd := .lit (.int .i64 0)) (zp := []) (plainElem_int Try.underlying3 (by decide)) (set_of H)
  obtain ⟨c, rfl, hc, _⟩ := plainElem_int_inv Try.underlying3 hv
  refine ⟨c, by rw [← h1]; exact hrun, fun x hx => ?_⟩
  have := h2 x hx
  have hc' := congrArg Prod.fst hc
  simp only at hc'
  rw [this] at hc'
  simp at hc'
  exact hc'.symm

/-- Looking up a set that is there. -/
theorem run_slook1 {w : World} {b n : Nat} {M : (Nat → Bool) → Option Int} {H : Nat → Bool} {x : Int} (h8 : In8 H) (hj : SMap w b n M) (hx : M H = some x) :
    (Instr.lookup 119 (.map (some b)) (setV H) false).run Try.prog w = .ok (.int .i64 x) w := by
  obtain ⟨D, hown, hat⟩ := hj
  obtain ⟨c, hrun, hc, _⟩ := hown.lookup_int Try.keyedS Try.underlying119 Try.underlying3 (Try.zeroI w) (set_of H)
  have := (hat H h8).2 x hx
  rw [this] at hc
  simp at hc
  rw [hrun, hc]

def sput (M : (Nat → Bool) → Option Int) (H : Nat → Bool) (x : Int) (H' : Nat → Bool) : Option Int := if H' 0 = H 0 ∧ H' 1 = H 1 ∧ H' 2 = H 2 ∧ H' 3 = H 3 ∧ H' 4 = H 4 ∧ H' 5 = H 5 ∧ H' 6 = H 6 ∧ H' 7 = H 7 then some x else M H'

theorem sput_self {M : (Nat → Bool) → Option Int} {H : Nat → Bool} {x : Int} : sput M H x H = some x := if_pos ⟨rfl, rfl, rfl, rfl, rfl, rfl, rfl, rfl⟩
theorem sput_ne {M : (Nat → Bool) → Option Int} {H H' : Nat → Bool} {x : Int} (h8 : In8 H) (h8' : In8 H') (h : H' ≠ H) : sput M H x H' = M H' := if_neg (fun ⟨a0, a1, a2, a3, a4, a5, a6, a7⟩ => h (in8_ext h8' h8 (fun q hq =>
  match q, hq with
  | 0, _ => a0
  | 1, _ => a1
  | 2, _ => a2
  | 3, _ => a3
  | 4, _ => a4
  | 5, _ => a5
  | 6, _ => a6
  | 7, _ => a7)))

/-- Putting in. -/
theorem run_sput {w : World} {b n : Nat} {M : (Nat → Bool) → Option Int} {H : Nat → Bool} {x : Int} (h8 : In8 H) (hn : n < maxLen) (hx : (Lit.int .i64 x).wf = true) (hj : SMap w b n M) :
    ∃ w', (Instr.mapUpdate 119 (.map (some b)) (setV H) (.int .i64 x)).run Try.prog w = .ok () w' ∧ SMap w' b (n + 1) (sput M H x) ∧ Fr (fun i => i = b) w w' := by
  obtain ⟨D, hown, hat⟩ := hj
  have hmap : Maps.IsMap D := hown.isMap
  obtain ⟨w', hrun, hown', ht⟩ := hown.store Try.keyedS Try.underlying119 hn (set_of H) (plainElem_int Try.underlying3 hx)
  refine ⟨w', hrun, ⟨_, hown', fun H' h8' => ?_⟩, fr_turned ht⟩
  by_cases e : H' = H
  · subst e
    rw [sput_self]
    refine ⟨by rw [Maps.has_put_same hmap (Try.keyedS.key (set_of H'))]; rfl, fun y hy => ?_⟩
    rw [Maps.atKey_put_same hmap (Try.keyedS.key (set_of H'))]
    cases hy
    rfl
  · rw [sput_ne h8 h8' e]
    have hne : setL H' ≠ setL H := fun h => e (setL_inj h8' h8 h)
    rw [Maps.has_put_other hne, Maps.atKey_put_other hne]
    exact hat H' h8'

end Go.Proofs.Ytdabcflpcklfiaa
