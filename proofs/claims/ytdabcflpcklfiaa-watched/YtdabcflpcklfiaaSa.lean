import Derived.Test.YtdabcflpcklfiaaK05
import Derived.Maps.RangeWalk
/- All jobs that are not done, one by one, in whatever order. -/
namespace Go.Proofs.Ytdabcflpcklfiaa
open Go.RowKit Cad

/-- A loop over the map of jobs is under way: those of vs have come. -/
def JRange (w : World) (b r n : Nat) (M : Nat → Nat → Option Nat) (vs : List (Nat × Nat)) (c : Nat) : Prop :=
  ∃ (D : DataW Unit) (left : Lit → Bool), w.ranges Try.prog 145 jobR b r n D left c ∧ (∀ t i, t ≤ 9223372036854775807 → i ≤ 9223372036854775807 → D.atKey (keyL t i) .nil = jdat (M t i)) ∧
    (∀ l, Maps.has D l = true → ∃ t i, t ≤ 9223372036854775807 ∧ i ≤ 9223372036854775807 ∧ l = keyL t i ∧ (M t i).isSome = true) ∧ (∀ l, left l = true → Maps.has D l = true) ∧
    (∀ t i, t ≤ 9223372036854775807 → i ≤ 9223372036854775807 → (M t i).isSome = true → (left (keyL t i) = true ↔ (t, i) ∉ vs)) ∧ vs.Nodup ∧ (∀ p ∈ vs, p.1 ≤ 9223372036854775807 ∧ p.2 ≤ 9223372036854775807 ∧ (M p.1 p.2).isSome = true)

theorem jdat_some {x : Option Nat} (h : x.isSome = true) : jdat x ≠ .nil := by
  cases x with
  | none => cases h
  | some b => intro e; cases e

theorem JMap.start {b n : Nat} {M : Nat → Nat → Option Nat} {D : DataW Unit} {w' : World} {r c : Nat} (h : w'.ranges Try.prog 145 jobR b r n D (Maps.has D) c)
    (h2 : ∀ t i, t ≤ 9223372036854775807 → i ≤ 9223372036854775807 → D.atKey (keyL t i) .nil = jdat (M t i))
    (h3 : ∀ l, Maps.has D l = true → ∃ t i, t ≤ 9223372036854775807 ∧ i ≤ 9223372036854775807 ∧ l = keyL t i ∧ (M t i).isSome = true) : JRange w' b r n M [] c :=
  ⟨D, _, h, h2, h3, fun _ h => h, fun t i ht hi hs => ⟨fun _ => by simp, fun _ => by
    cases hh : Maps.has D (keyL t i) with
    | true => rfl
    | false =>
      exfalso
      have := h2 t i ht hi
      rw [Maps.atKey_of_not_has hh] at this
      exact jdat_some hs this.symm⟩, List.nodup_nil, fun p hp => by cases hp⟩

theorem JRange.lt {w : World} {b r n c : Nat} {M : Nat → Nat → Option Nat} {vs : List (Nat × Nat)} (h : JRange w b r n M vs c) : r < w.heap.size ∧ b < w.heap.size := by
  obtain ⟨D, left, hr, _⟩ := h
  exact ⟨hr.lt, hr.owns.lt⟩

theorem JRange.left_eq {w : World} {b r n c : Nat} {M : Nat → Nat → Option Nat} {vs : List (Nat × Nat)} (h : JRange w b r n M vs c) : w.rangeLeft b r = c := by
  obtain ⟨D, left, hr, _⟩ := h
  exact hr.left_eq

theorem JRange.kept {w w' : World} {b r n c : Nat} {M : Nat → Nat → Option Nat} {vs : List (Nat × Nat)} {row : Option Nat} (h : JRange w b r n M vs c) (hg : w.grownBy w' row) (h1 : some b ≠ row) (h2 : some r ≠ row) : JRange w' b r n M vs c := by
  obtain ⟨D, left, hr, rest⟩ := h
  exact ⟨D, left, hr.kept hg h1 h2, rest⟩

/-- 'range', at the operation. -/
theorem wpList_jrange {w : World} {ops : Array Oper} {rest : List Oper} {o : Oper} {a : Act} {Q : Exit → Act → World → Prop}
    (hg : o.guard = none) (m : Operand) (hop : o.op = Op.range 132 m) (b n : Nat) (M : Nat → Nat → Option Nat) (hm : a.eval m = .map (some b)) (hj : JMap w b n M)
    (hK : ∀ w' c, JRange w' b w.heap.size n M [] c → w.grownBy w' none → w'.heap.size = w.heap.size + 1 → wpList Try.prog ops Q rest (a.put o.dst (.pointer (some ⟨w.heap.size, 0, none⟩))) w') :
    wpList Try.prog ops Q (o :: rest) a w := by
  obtain ⟨D, hown, hat, honly⟩ := hj
  exact wpList_range_own w hg m 132 hop 145 136 Try.keyed Try.underlying132 jobR b n D hm hown (fun w' h1 h2 h3 => hK w' _ (JMap.start h1 hat honly) h2 h3)

/-- The step, at the operation. -/
theorem wpList_jnext {w : World} {ops : Array Oper} {rest : List Oper} {o : Oper} {a : Act} {Q : Exit → Act → World → Prop}
    (hg : o.guard = none) (it : Operand) (hop : o.op = Op.next it false) (b r n c : Nat) (M : Nat → Nat → Option Nat) (vs : List (Nat × Nat)) (hit : a.eval it = .pointer (some ⟨r, 0, none⟩)) (h : JRange w b r n M vs c)
    (hDone : (∀ t i, t ≤ 9223372036854775807 → i ≤ 9223372036854775807 → (M t i).isSome = true → (t, i) ∈ vs) → wpList Try.prog ops Q rest (a.put o.dst (.tuple #[.bool false])) w)
    (hMore : ∀ (key : Value) (t i g : Nat) (w' : World) (c' : Nat), t ≤ 9223372036854775807 → i ≤ 9223372036854775807 → M t i = some g → (t, i) ∉ vs → JRange w' b r n M (vs ++ [(t, i)]) c' → c' < c →
      w.grownBy w' (some r) → w'.heap.size = w.heap.size → (Instr.entry (.pointer (some ⟨r, 0, none⟩))).run Try.prog w' = .ok (.tuple #[key, .pointer (some ⟨g, 0, none⟩)]) w' → wpList Try.prog ops Q rest (a.put o.dst (.tuple #[.bool true, key, .pointer (some ⟨g, 0, none⟩)])) w') :
    wpList Try.prog ops Q (o :: rest) a w := by
  obtain ⟨D, left, hr, hat, honly, hlh, hleft, hnd, hvs⟩ := h
  refine wpList_next_ranges (α := Value) (β := Value) w hg it hop 145 Try.keyed jobR id id (fun key kl _ => ⟨key, rfl⟩) (fun v y _ => ⟨v, rfl⟩) b r n D left c hit hr (fun _ hl => hDone (fun t i ht hi hs => ?_)) (fun x v kl y w' c' hkey hlk hv haty hr' hlt hgr hsz hen => ?_)
  · by_cases e : (t, i) ∈ vs
    · exact e
    · have := (hleft t i ht hi hs).2 e
      rw [hl] at this
      cases this
  · obtain ⟨t, i, ht, hi, rfl, hs⟩ := honly kl (hlh kl hlk)
    obtain ⟨g, hgM⟩ := Option.isSome_iff_exists.1 hs
    have hy : y.1 = jdat (M t i) := by rw [← haty .nil]; exact hat t i ht hi
    have hvp : v = .pointer (some ⟨g, 0, none⟩) := by
      have : jobR v = some (jdat (M t i), y.2) := by rw [← hy]; exact hv
      rw [jobR_dat this, hgM]
      rfl
    have hvv : (id v : Value) = .pointer (some ⟨g, 0, none⟩) := hvp
    have hnv : (t, i) ∉ vs := (hleft t i ht hi hs).1 hlk
    rw [hvv] at hen ⊢
    refine hMore (id x) t i g w' c' ht hi hgM hnv ⟨D, _, hr', hat, honly, fun l hl => ?_, fun t' i' ht' hi' hs' => ?_, ?_, ?_⟩ hlt hgr hsz hen
    · simp only [Bool.and_eq_true] at hl
      exact hlh l hl.1
    · simp only [Bool.and_eq_true, Bool.not_eq_true', List.mem_append, List.mem_singleton, not_or]
      rw [hleft t' i' ht' hi' hs']
      refine and_congr Iff.rfl ⟨fun e g' => ?_, fun e => ?_⟩
      · cases g'
        rw [WideAt.sameKey_self (Try.keyed.key (key_of ht hi))] at e
        cases e
      · refine Maps.sameKey_ne (fun g' => e ?_)
        obtain ⟨rfl, rfl⟩ := keyL_inj ht' hi' ht hi g'
        rfl
    · refine List.nodup_append.2 ⟨hnd, by simp, fun a ha b hb e => ?_⟩
      simp at hb
      subst hb
      subst e
      exact hnv ha
    · intro p hp
      rcases List.mem_append.1 hp with h1 | h1
      · exact hvs p h1
      · simp at h1
        subst h1
        exact ⟨ht, hi, hs⟩

end Go.Proofs.Ytdabcflpcklfiaa
