import Derived.Test.YtdabcflpcklfiaaMa
/- The map of the jobs: look up, put in, strike out. -/
namespace Go.Proofs.Ytdabcflpcklfiaa
open Go.RowKit Cad

theorem Try.keyType132 : Try.prog.keyType 145 = true := by kernel_rfl
theorem Try.cells145 : Try.prog.cellsOf 145 = 2 := by kernel_rfl
theorem Try.cel3 : Try.prog.cellsOf 3 = 1 := by kernel_rfl
theorem lits_int (d : Nat) {n : Int} (h : (Lit.int .i64 n).wf = true) : Try.prog.keyLits (d + 1) 3 [.int .i64 n] = some [.int .i64 n] := by
  unfold Program.keyLits
  rw [Try.underlying3]
  simp [h]
theorem lits_key (d : Nat) {a b : Int} (ha : (Lit.int .i64 a).wf = true) (hb : (Lit.int .i64 b).wf = true) : Try.prog.keyLits (d + 1 + 1) 145 [.int .i64 a, .int .i64 b] = some [.int .i64 a, .int .i64 b] := by
  have e1 := lits_int d ha
  have e2 := lits_int d hb
  unfold Program.keyLits
  rw [Try.underlying145]
  simp only [Try.cells145]
  simp [Try.cel3, e1, e2]
def keyL (t i : Nat) : Lit := .string (keyBytes [.int .i64 t, .int .i64 i])

theorem key_of {t i : Nat} (ht : t ≤ 9223372036854775807) (hi : i ≤ 9223372036854775807) : keyOf Try.prog 145 (keyV t i) = some (keyL t i) := by
  have h1 : (Lit.int .i64 (t : Int)).wf = true := WalkArith.wf_i64 (by omega)
  have h2 : (Lit.int .i64 (i : Int)).wf = true := WalkArith.wf_i64 (by omega)
  obtain ⟨d, hd⟩ : ∃ d, Try.prog.types.size = d + 1 := ⟨220, by kernel_rfl⟩
  have e := lits_key d h1 h2
  have hform : (keyV t i).formed Try.prog 145 = true := by
    simp only [keyV, Value.formed, Try.underlying145, Try.cells145]
    rfl
  unfold keyL
  unfold keyOf
  rw [Try.underlying145]
  simp only [Try.keyType132, hform, hd, Bool.and_self, if_true]
  show (Try.prog.keyLits (d + 1 + 1) 145 [.int .i64 t, .int .i64 i]).map _ = _
  rw [e]
  rfl

theorem keyL_inj {t i t' i' : Nat} (h1 : t ≤ 9223372036854775807) (h2 : i ≤ 9223372036854775807) (h3 : t' ≤ 9223372036854775807) (h4 : i' ≤ 9223372036854775807) (h : keyL t i = keyL t' i') : t = t' ∧ i = i' := by
  have e := Try.keyed.inj (key_of h1 h2) (h ▸ key_of h3 h4)
  simp [keyV] at e
  omega

/-- What lies at a key: no job, or a block. -/
def jdat (x : Option Nat) : DataW Unit := match x with
  | none => .nil
  | some b => .lit (.int .i64 (b : Int))

def jptr (x : Option Nat) : Value := .pointer (x.map fun b => ⟨b, 0, none⟩)

theorem jobR_dat {v : Value} {ps : List MemPlace} {x : Option Nat} (h : jobR v = some (jdat x, ps)) : v = jptr x := by
  cases x with
  | none => exact jobR_nil h
  | some b => exact jobR_some h

/-- Block b is the map with M's jobs, of at most n entries. -/
def JMap (w : World) (b n : Nat) (M : Nat → Nat → Option Nat) : Prop :=
  ∃ D : DataW Unit, w.ownsMap Try.prog 145 jobR b n D ∧ (∀ t i, t ≤ 9223372036854775807 → i ≤ 9223372036854775807 → D.atKey (keyL t i) .nil = jdat (M t i)) ∧
    (∀ l, Maps.has D l = true → ∃ t i, t ≤ 9223372036854775807 ∧ i ≤ 9223372036854775807 ∧ l = keyL t i ∧ (M t i).isSome = true)

theorem JMap.of_block {w w' : World} {b n : Nat} {M : Nat → Nat → Option Nat} (h : JMap w b n M) (e : w'.heap[b]? = w.heap[b]?) : JMap w' b n M := by
  obtain ⟨D, ⟨es, clock, hb, F, hs, hD⟩, h2, h3⟩ := h
  exact ⟨D, ⟨es, clock, e.trans hb, F, hs, hD⟩, h2, h3⟩

theorem JMap.lt {w : World} {b n : Nat} {M : Nat → Nat → Option Nat} (h : JMap w b n M) : b < w.heap.size := by
  obtain ⟨D, hown, _⟩ := h
  exact hown.lt

theorem JMap.ne {w : World} {b n : Nat} {M : Nat → Nat → Option Nat} (h : JMap w b n M) {g t m : Nat} {f : Nat → Value} (hr : w.rowIs g t m f) : b ≠ g := by
  rintro rfl
  obtain ⟨D, ⟨es, clock, hb, _⟩, _⟩ := h
  obtain ⟨c, hc, _⟩ := hr
  rw [hb] at hc
  cases hc

theorem JMap.congr {w : World} {b n : Nat} {M M' : Nat → Nat → Option Nat} (h : JMap w b n M) (e : ∀ t i, M t i = M' t i) : JMap w b n M' := by
  have : M = M' := by funext t i; exact e t i
  exact this ▸ h

theorem JMap.mono {w : World} {b n n' : Nat} {M : Nat → Nat → Option Nat} (h : JMap w b n M) (e : n ≤ n') : JMap w b n' M := by
  obtain ⟨D, h1, h2, h3⟩ := h
  exact ⟨D, h1.mono e, h2, h3⟩

theorem Try.zero123 (w : World) : (zeroValue 136).run Try.prog w = .ok (.pointer none) w := by kernel_rfl

theorem JMap.made (w : World) : JMap (w.alloc (.map #[] 0)) w.heap.size 0 (fun _ _ => none) :=
  ⟨.map [], World.ownsMap_made _ _ _ _, fun _ _ _ _ => rfl, fun l h => by simp [Maps.has] at h⟩

/-- Looking up, at the operation. -/
theorem wpList_jlook {w : World} {ops : Array Oper} {rest : List Oper} {o : Oper} {a : Act} {Q : Exit → Act → World → Prop}
    (hg : o.guard = none) (m x : Operand) (hop : o.op = Op.lookup 132 m x false) (b n : Nat) (M : Nat → Nat → Option Nat) (t i : Nat) (ht : t ≤ 9223372036854775807) (hi : i ≤ 9223372036854775807)
    (hm : a.eval m = .map (some b)) (hx : a.eval x = keyV t i) (hj : JMap w b n M)
    (hK : wpList Try.prog ops Q rest (a.put o.dst (jptr (M t i))) w) :
    wpList Try.prog ops Q (o :: rest) a w := by
  obtain ⟨D, hown, hat, _⟩ := hj
  obtain ⟨v, ps, hrun, hv⟩ := hown.lookup Try.keyed Try.underlying132 (Try.zero123 w) (zd := .nil) (zp := []) rfl (key_of ht hi)
  rw [hat t i ht hi] at hv
  have e := jobR_dat hv
  subst e
  refine wpList_plain hg fun K' hK' => ?_
  unfold Oper.wp
  simp [execOp, hop, hm, hx, hrun, Result.andThen]
  exact hK' _ _ hK

/-- The same as an equation. -/
theorem run_jlook {w : World} {b n : Nat} {M : Nat → Nat → Option Nat} {t i : Nat} (ht : t ≤ 9223372036854775807) (hi : i ≤ 9223372036854775807) (hj : JMap w b n M) :
    (Instr.lookup 132 (.map (some b)) (keyV t i) false).run Try.prog w = .ok (jptr (M t i)) w := by
  obtain ⟨D, hown, hat, _⟩ := hj
  obtain ⟨v, ps, hrun, hv⟩ := hown.lookup Try.keyed Try.underlying132 (Try.zero123 w) (zd := .nil) (zp := []) rfl (key_of ht hi)
  rw [hat t i ht hi] at hv
  rw [hrun, jobR_dat hv]

def mput (M : Nat → Nat → Option Nat) (t i : Nat) (x : Option Nat) : Nat → Nat → Option Nat := fun t' i' => if t' = t ∧ i' = i then x else M t' i'

theorem fr_turned {w w' : World} {b : Nat} (h : w.mapTurned w' b) : Fr (fun i => i = b) w w' :=
  ⟨h.grown.os, h.grown.tape, h.grown.output, h.grown.size, fun i hi hn => h.grown.block i hi (fun e => hn (by simpa using e))⟩

/-- Putting in, at the operation. -/
theorem wpList_jput {w : World} {ops : Array Oper} {rest : List Oper} {o : Oper} {a : Act} {Q : Exit → Act → World → Prop}
    (hg : o.guard = none) (m x v : Operand) (hop : o.op = Op.mapUpdate 132 m x v) (b n : Nat) (M : Nat → Nat → Option Nat) (t i g : Nat) (ht : t ≤ 9223372036854775807) (hi : i ≤ 9223372036854775807) (hn : n < maxLen)
    (hm : a.eval m = .map (some b)) (hx : a.eval x = keyV t i) (hv : a.eval v = .pointer (some ⟨g, 0, none⟩)) (hj : JMap w b n M)
    (hK : ∀ w', JMap w' b (n + 1) (mput M t i (some g)) → Fr (fun i => i = b) w w' → wpList Try.prog ops Q rest (a.put o.dst undef) w') :
    wpList Try.prog ops Q (o :: rest) a w := by
  obtain ⟨D, hown, hat, honly⟩ := hj
  have hmap : Maps.IsMap D := hown.isMap
  refine wpList_mapUpdate_in (H := Unit) w hg m x v 132 hop 145 136 Try.keyed Try.underlying132 jobR b n D hm hown hn _ _ (keyL t i) hx hv (key_of ht hi) (.lit (.int .i64 (g : Int))) [] rfl (fun w' h1 h2 => hK w' ⟨_, h1, ?_, ?_⟩ (fr_turned h2))
  · intro t' i' ht' hi'
    unfold mput
    by_cases e : t' = t ∧ i' = i
    · obtain ⟨rfl, rfl⟩ := e
      rw [if_pos ⟨rfl, rfl⟩, Maps.atKey_put_same hmap (Try.keyed.key (key_of ht hi))]
      rfl
    · rw [if_neg e, Maps.atKey_put_other (fun h => e (keyL_inj ht' hi' ht hi h))]
      exact hat t' i' ht' hi'
  · intro l hl
    by_cases e : l = keyL t i
    · exact ⟨t, i, ht, hi, e, by simp [mput]⟩
    · rw [Maps.has_put_other e] at hl
      obtain ⟨t', i', h1, h2, h3, h4⟩ := honly l hl
      refine ⟨t', i', h1, h2, h3, ?_⟩
      unfold mput
      rw [if_neg (fun h => e (by rw [h3, h.1, h.2]))]
      exact h4

/-- Striking out, at the operation. -/
theorem wpList_jdel {w : World} {ops : Array Oper} {rest : List Oper} {o : Oper} {a : Act} {Q : Exit → Act → World → Prop}
    (hg : o.guard = none) (m x : Operand) (hop : o.op = Op.call { callee := Callee.builtin Builtin.delete, args := #[m, x], argTypes := #[132, 145] }) (b n : Nat) (M : Nat → Nat → Option Nat) (t i : Nat) (ht : t ≤ 9223372036854775807) (hi : i ≤ 9223372036854775807)
    (hm : a.eval m = .map (some b)) (hx : a.eval x = keyV t i) (hj : JMap w b n M)
    (hK : ∀ w', JMap w' b n (mput M t i none) → Fr (fun i => i = b) w w' → wpList Try.prog ops Q rest (a.put o.dst (.tuple #[])) w') :
    wpList Try.prog ops Q (o :: rest) a w := by
  obtain ⟨D, hown, hat, honly⟩ := hj
  refine wpList_delete_own (H := Unit) w hg m x 132 145 hop 136 Try.keyed Try.underlying132 jobR b n D hm hown _ (keyL t i) hx (key_of ht hi) (fun w' h1 h2 => hK w' ⟨_, h1, ?_, ?_⟩ (fr_turned h2))
  · intro t' i' ht' hi'
    unfold mput
    by_cases e : t' = t ∧ i' = i
    · obtain ⟨rfl, rfl⟩ := e
      rw [if_pos ⟨rfl, rfl⟩, Maps.atKey_del_same]
      rfl
    · rw [if_neg e, Maps.atKey_del_other (fun h => e (keyL_inj ht' hi' ht hi h))]
      exact hat t' i' ht' hi'
  · intro l hl
    by_cases e : l = keyL t i
    · subst e
      rw [Maps.has_del_same] at hl
      cases hl
    · rw [Maps.has_del_other e] at hl
      obtain ⟨t', i', h1, h2, h3, h4⟩ := honly l hl
      refine ⟨t', i', h1, h2, h3, ?_⟩
      unfold mput
      rw [if_neg (fun h => e (by rw [h3, h.1, h.2]))]
      exact h4

end Go.Proofs.Ytdabcflpcklfiaa
