import Derived.Test.YtdabcflpcklfiaaGreatA02
import Derived.Maps.RangeWalk
import Derived.Test.YtdabcflpcklfiaaGreatA13
import Derived.Deep.MidRow
import Derived.Test.YtdabcflpcklfiaaGreatA25
/- All jobs that are not done, one by one, in whatever order. -/
namespace Go.Proofs.YtdabcflpcklfiaaGreat
open Go.RowKit Cad

/-- A loop over the map of jobs is under way: those of vs have come. -/
def JRange (w : World) (b r n : Nat) (M : Nat → Nat → Option Nat) (vs : List (Nat × Nat)) (c : Nat) : Prop :=
  ∃ (D : DataW Unit) (left : Lit → Bool), w.ranges Tryz.prog 164 jobR b r n D left c ∧ (∀ t i, t ≤ 9223372036854775807 → i ≤ 9223372036854775807 → D.atKey (keyL t i) .nil = jdat (M t i)) ∧
    (∀ l, Maps.has D l = true → ∃ t i, t ≤ 9223372036854775807 ∧ i ≤ 9223372036854775807 ∧ l = keyL t i ∧ (M t i).isSome = true) ∧ (∀ l, left l = true → Maps.has D l = true) ∧
    (∀ t i, t ≤ 9223372036854775807 → i ≤ 9223372036854775807 → (M t i).isSome = true → (left (keyL t i) = true ↔ (t, i) ∉ vs)) ∧ vs.Nodup ∧ (∀ p ∈ vs, p.1 ≤ 9223372036854775807 ∧ p.2 ≤ 9223372036854775807 ∧ (M p.1 p.2).isSome = true)

theorem jdat_some {x : Option Nat} (h : x.isSome = true) : jdat x ≠ .nil := by
  cases x with
  | none => cases h
  | some b => intro e; cases e

theorem JMap.start {b n : Nat} {M : Nat → Nat → Option Nat} {D : DataW Unit} {w' : World} {r c : Nat} (h : w'.ranges Tryz.prog 164 jobR b r n D (Maps.has D) c)
    (h2 : ∀ t i, t ≤ 9223372036854775807 → i ≤ 9223372036854775807 → D.atKey (keyL t i) .nil = jdat (M t i))
    (h3 : ∀ l, Maps.has D l = true → ∃ t i, t ≤ 9223372036854775807 ∧ i ≤ 9223372036854775807 ∧ l = keyL t i ∧ (M t i).isSome = true) : JRange w' b r n M [] c :=
  ⟨D, _, h, h2, h3, fun _ h => h, fun t i ht hi hs => ⟨fun _ => by simp, fun _ => by
    cases hh : Maps.has D (keyL t i) with
    | true => rfl
    | false =>
      exfalso
      have := h2 t i ht hi
      rw [Maps.atKey_of_not_has hh] at this
      exact jdat_some hs this.symm⟩, List.nodup_nil, fun p hp => by cases hp⟩

theorem JRange.left_eq {w : World} {b r n c : Nat} {M : Nat → Nat → Option Nat} {vs : List (Nat × Nat)} (h : JRange w b r n M vs c) : w.rangeLeft b r = c := by
  obtain ⟨D, left, hr, _⟩ := h
  exact hr.left_eq

theorem JRange.kept {w w' : World} {b r n c : Nat} {M : Nat → Nat → Option Nat} {vs : List (Nat × Nat)} {row : Option Nat} (h : JRange w b r n M vs c) (hg : w.grownBy w' row) (h1 : some b ≠ row) (h2 : some r ≠ row) : JRange w' b r n M vs c := by
  obtain ⟨D, left, hr, rest⟩ := h
  exact ⟨D, left, hr.kept hg h1 h2, rest⟩

/-- 'range', at the operation. -/
theorem wpList_jrange {w : World} {ops : Array Oper} {rest : List Oper} {o : Oper} {a : Act} {Q : Exit → Act → World → Prop}
    (hg : o.guard = none) (m : Operand) (hop : o.op = Op.range 138 m) (b n : Nat) (M : Nat → Nat → Option Nat) (hm : a.eval m = .map (some b)) (hj : JMap w b n M)
    (hK : ∀ w' c, JRange w' b w.heap.size n M [] c → w.grownBy w' none → w'.heap.size = w.heap.size + 1 → wpList Tryz.prog ops Q rest (a.put o.dst (.pointer (some ⟨w.heap.size, 0, none⟩))) w') :
    wpList Tryz.prog ops Q (o :: rest) a w := by
  obtain ⟨D, hown, hat, honly⟩ := hj
  exact wpList_range_own w hg m 138 hop 164 154 Tryz.keyed Tryz.underlying138 jobR b n D hm hown (fun w' h1 h2 h3 => hK w' _ (JMap.start h1 hat honly) h2 h3)

/-- The step, at the operation. -/
theorem wpList_jnext {w : World} {ops : Array Oper} {rest : List Oper} {o : Oper} {a : Act} {Q : Exit → Act → World → Prop}
    (hg : o.guard = none) (it : Operand) (hop : o.op = Op.next it false) (b r n c : Nat) (M : Nat → Nat → Option Nat) (vs : List (Nat × Nat)) (hit : a.eval it = .pointer (some ⟨r, 0, none⟩)) (h : JRange w b r n M vs c)
    (hDone : (∀ t i, t ≤ 9223372036854775807 → i ≤ 9223372036854775807 → (M t i).isSome = true → (t, i) ∈ vs) → wpList Tryz.prog ops Q rest (a.put o.dst (.tuple #[.bool false])) w)
    (hMore : ∀ (key : Value) (t i g : Nat) (w' : World) (c' : Nat), t ≤ 9223372036854775807 → i ≤ 9223372036854775807 → M t i = some g → (t, i) ∉ vs → JRange w' b r n M (vs ++ [(t, i)]) c' → c' < c →
      w.grownBy w' (some r) → w'.heap.size = w.heap.size → (Instr.entry (.pointer (some ⟨r, 0, none⟩))).run Tryz.prog w' = .ok (.tuple #[key, .pointer (some ⟨g, 0, none⟩)]) w' → wpList Tryz.prog ops Q rest (a.put o.dst (.tuple #[.bool true, key, .pointer (some ⟨g, 0, none⟩)])) w') :
    wpList Tryz.prog ops Q (o :: rest) a w := by
  obtain ⟨D, left, hr, hat, honly, hlh, hleft, hnd, hvs⟩ := h
  refine wpList_next_ranges (α := Value) (β := Value) w hg it hop 164 Tryz.keyed jobR id id (fun key kl _ => ⟨key, rfl⟩) (fun v y _ => ⟨v, rfl⟩) b r n D left c hit hr (fun _ hl => hDone (fun t i ht hi hs => ?_)) (fun x v kl y w' c' hkey hlk hv haty hr' hlt hgr hsz hen => ?_)
  · by_cases e : (t, i) ∈ vs
    · exact e
    · have := (hleft t i ht hi hs).2 e
      rw [hl] at this
      cases this
  · obtain ⟨t, i, ht, hi, rfl, hs⟩ := honly kl (hlh kl hlk)
    obtain ⟨g, hgM⟩ := Option.isSome_iff_exists.1 hs
    have hy : y.1 = jdat (M t i) := by rw [← haty .nil]; exact hat t i ht hi
    have hvp : v = .pointer (some ⟨g, 0, none⟩) := by
      have : jobR v = some (jdat (M t i), y.2) := by rw [← hy]; exact hv
      rw [jobR_dat this, hgM]
      rfl
    have hvv : (id v : Value) = .pointer (some ⟨g, 0, none⟩) := hvp
    have hnv : (t, i) ∉ vs := (hleft t i ht hi hs).1 hlk
    rw [hvv] at hen ⊢
    refine hMore (id x) t i g w' c' ht hi hgM hnv ⟨D, _, hr', hat, honly, fun l hl => ?_, fun t' i' ht' hi' hs' => ?_, ?_, ?_⟩ hlt hgr hsz hen
    · simp only [Bool.and_eq_true] at hl
      exact hlh l hl.1
    · simp only [Bool.and_eq_true, Bool.not_eq_true', List.mem_append, List.mem_singleton, not_or]
      rw [hleft t' i' ht' hi' hs']
      refine and_congr Iff.rfl ⟨fun e g' => ?_, fun e => ?_⟩
      · cases g'
        rw [WideAt.sameKey_self (Tryz.keyed.key (key_of ht hi))] at e
        cases e
      · refine Maps.sameKey_ne (fun g' => e ?_)
        obtain ⟨rfl, rfl⟩ := keyL_inj ht' hi' ht hi g'
        rfl
    · refine List.nodup_append.2 ⟨hnd, by simp, fun a ha b hb e => ?_⟩
      simp at hb
      subst hb
      subst e
      exact hnv ha
    · intro p hp
      rcases List.mem_append.1 hp with h1 | h1
      · exact hvs p h1
      · simp at h1
        subst h1
        exact ⟨ht, hi, hs⟩

end Go.Proofs.YtdabcflpcklfiaaGreat

/- The records of all jobs are gathered. -/
namespace Go.Proofs.YtdabcflpcklfiaaGreat
open Go.RowKit Cad

theorem keptC_len : ∀ l : List Rc, (keptC l).length = l.length * 6
  | [] => rfl
  | r :: l => by
    have := keptC_len l
    simp only [keptC, List.flatMap_cons, List.length_append, List.length_cons] at this ⊢
    rw [this]
    simp [recC]
    omega

theorem nil133 (w : World) (a : Option Addr) (n c : Nat) : (binOp .eql 140 (.slice a n c) (.slice none 0 0)).run Tryz.prog w = .ok (.bool a.isNone) w := Lib.run_eql_slice_nil w 140 158 a n c 0 0 Tryz.underlying140

set_option maxRecDepth 100000 in
set_option maxHeartbeats 1000000 in
/-- slices.Clone of records. -/
theorem clone_recs (kv : Value) (l : List Rc) (w : World) (hl : l.length ≤ 40) (h : w.ownsRow 0 158 6 kv l.length (keptC l)) :
    Calls Tryz.prog 88 #[kv] w fun e w' => ∃ v, e = .returned v ∧ w'.ownsRow w.heap.size 158 6 v l.length (keptC l) ∧ Below w.heap.size w w' := by
  obtain ⟨i0, hi0, hz0, hz1, hz2⟩ := info_parts Tryz.info158
  have hnil := nil133
  have h0 := h
  obtain ⟨_, ⟨rfl, hn⟩ | ⟨g, cap, cur, rfl, _⟩⟩ := h0
  · have : l = [] := List.length_eq_zero_iff.1 hn
    subst this
    clear h hn
    go_enter Tryz.func88, Tryz.ntmps88
    go_wp2
    go_ret
    exact ⟨_, rfl, World.ownsRow_nil _ _ _ _, Below.refl _ _⟩
  · have hg := (h.lt g rfl).2
    have HN : Hid (∀ j u, (keptC l)[j]? = some u → (w.alloc (.cells #[] 158)).cell? ((⟨g, 0, none⟩ : Addr).add j) = some u) := fun j u hu => by
      have := h.cells (g := g) rfl j u hu
      rw [Addr.add_lit] at this ⊢
      rw [← this]
      simp only [World.cell?]
      rw [Deep.blk_alloc_lt _ _ _ hg]
    have HL : Hid ((keptC l).length = l.length * 6) := keptC_len l
    have H1 : Hid (∀ u ∈ keptC l, u.oneCell' = true) := keptC_one l
    have HO : Hid ((w.alloc (.cells #[] 158)).ownsRow w.heap.size 158 6 (.slice (some ⟨w.heap.size, 0, none⟩) 0 0) 0 []) := World.ownsRow_made w #[] 0 (Nat.le_refl _) (Nat.zero_le _) rfl
    clear h
    go_enter Tryz.func88, Tryz.ntmps88
    go_wp2_with (at_builtin; refine wpList_append_own_at _ rfl _ _ 140 rfl w.heap.size 158 i0 _ 6 48 Tryz.underlying140 hi0 hz0 hz1 hz2 rfl (by decide) _ _ _ rfl HO.out ⟨g, 0, none⟩ l.length cap (keptC l) rfl HL.out HN.out H1.out (by unfold maxLen; omega) (by omega) (by simp) ?_; intro v' w1 hown1 hg1 hnil1 hloc1)
    rw [Nat.zero_add, List.nil_append] at hown1
    have HB : Hid (Below w.heap.size w w1) := ((Below.refl _ _).alloc (Nat.le_refl _) _).grown hg1 (by simp) (fun k hk => by cases hk; exact Nat.le_refl _)
    have HO1 : Hid (w1.ownsRow w.heap.size 158 6 v' l.length (keptC l)) := hown1
    clear hown1 hg1 hnil1 hloc1
    go_wp2
    go_ret
    exact ⟨_, rfl, HO1.out, HB.out⟩

/-- What is told of a job that is not done. -/
def openRc (t : Nat) (j : Jb) : Rc := ⟨t, j.arr, j.rel, -1, j.left, j.ord⟩

/-- What is told of the job at a key. -/
def recAt (m : Mc) (p : Nat × Nat) : Rc := match (m.q p.1)[p.2 - m.done p.1]? with
  | some j => openRc p.1 j
  | none => ⟨0, 0, 0, 0, 0, 0⟩

/-- All keys of jobs that are not done. -/
def allKeys (S : Sy) (m : Mc) : List (Nat × Nat) := (List.range S.n).flatMap fun t => (List.range (m.q t).length).map fun k => (t, m.done t + k)

/-- All that is told, in some order. -/
def allRecs (S : Sy) (m : Mc) : List Rc := m.kept ++ (List.range S.n).flatMap fun t => (m.q t).map (openRc t)

theorem mem_allKeys {S : Sy} {m : Mc} {t i : Nat} : (t, i) ∈ allKeys S m ↔ isLive S m t i := by
  unfold allKeys
  simp only [List.mem_flatMap, List.mem_map, List.mem_range, Prod.mk.injEq]
  constructor
  · rintro ⟨a, ha, k, hk, rfl, rfl⟩
    exact ⟨ha, by omega, by omega⟩
  · rintro ⟨h1, h2, h3⟩
    exact ⟨t, h1, i - m.done t, by omega, rfl, by omega⟩

theorem allKeys_nodup (S : Sy) (m : Mc) : (allKeys S m).Nodup := by
  have main : ∀ n, ((List.range n).flatMap fun t => (List.range (m.q t).length).map fun k => (t, m.done t + k)).Nodup := by
    intro n
    induction n with
    | zero => exact List.nodup_nil
    | succ n ih =>
      rw [List.range_succ, List.flatMap_append]
      refine List.nodup_append.2 ⟨ih, ?_, ?_⟩
      · simp only [List.flatMap_cons, List.flatMap_nil, List.append_nil]
        refine List.Pairwise.map _ ?_ List.nodup_range
        intro a b hab e
        simp only [Prod.mk.injEq, true_and] at e
        exact hab (by omega)
      · intro a ha b hb e
        subst e
        simp only [List.mem_flatMap, List.mem_map, List.mem_range] at ha
        simp only [List.flatMap_cons, List.flatMap_nil, List.append_nil, List.mem_map, List.mem_range] at hb
        obtain ⟨t, ht, k, _, rfl⟩ := ha
        obtain ⟨k', _, e⟩ := hb
        simp only [Prod.mk.injEq] at e
        omega
  exact main S.n

theorem recs_keys (S : Sy) (m : Mc) : (allKeys S m).map (recAt m) = (List.range S.n).flatMap fun t => (m.q t).map (openRc t) := by
  unfold allKeys
  rw [List.map_flatMap]
  congr 1
  funext t
  rw [List.map_map]
  apply List.ext_getElem?
  intro k
  simp only [List.getElem?_map]
  by_cases hk : k < (m.q t).length
  · rw [List.getElem?_range hk, List.getElem?_eq_getElem hk]
    simp only [Option.map_some, Function.comp, recAt, Nat.add_sub_cancel_left, List.getElem?_eq_getElem hk]
  · rw [List.getElem?_eq_none (by simp; omega), List.getElem?_eq_none (by omega)]
    rfl

theorem allKeys_len {S : Sy} {m : Mc} (ho : Ok S m) : (allKeys S m).length ≤ 64 := by
  have h8 := ho.eight
  have main : ∀ n, n ≤ S.n → ((List.range n).flatMap fun t => (List.range (m.q t).length).map fun k => (t, m.done t + k)).length ≤ 8 * n := by
    intro n
    induction n with
    | zero => intro _; simp
    | succ n ih =>
      intro hn
      rw [List.range_succ, List.flatMap_append, List.length_append]
      have := ih (by omega)
      have h2 := ho.few n (by omega)
      simp only [List.flatMap_cons, List.flatMap_nil, List.append_nil, List.length_map, List.length_range]
      omega
  have := main S.n (Nat.le_refl _)
  unfold allKeys
  omega

theorem live_some {S : Sy} {m : Mc} {Y : Lay} {t i g : Nat} (h : live S m Y t i = some g) : isLive S m t i ∧ g = Y.jb t i := by
  unfold live at h
  split at h
  · rename_i hl
    cases h
    exact ⟨hl, rfl⟩
  · cases h

/-- What the sorting does. -/
def SortC : Prop := ∀ (v : Value) (l : List Rc) (w : World) (B : Nat), l.length ≤ 200 → w.ownsRow B 158 6 v l.length (keptC l) →
  Calls Tryz.prog 89 #[v, .func (.func 90) #[] #[]] w fun e w' => e = .returned (.tuple #[]) ∧ ∃ l', l.Perm l' ∧ l'.Pairwise (fun a b => a.ord ≤ b.ord) ∧ w'.ownsRow B 158 6 v l'.length (keptC l') ∧ Fr (fun q => v.ownBlock = some q) w w'

/-- What is told of a record. -/
def jobF (l : List Rc) (q : Nat) : Value := (keptC l).getD (q / 5 * 6 + q % 5) (.int .i64 0)

theorem Tryz.info93 : (Tryz.prog.info? 93).map (fun i => (i.zero, i.size, i.bytes)) = some (some (.agg #[.int .i64 0, .int .i64 0, .int .i64 0, .int .i64 0, .int .i64 0]), 5, 40) := by kernel_rfl

def zr5 (_ : Nat) : Value := .int .i64 0

theorem zero_5 (q : Nat) : ((Value.agg #[.int .i64 0, .int .i64 0, .int .i64 0, .int .i64 0, .int .i64 0]).cells[q % (Value.agg #[.int .i64 0, .int .i64 0, .int .i64 0, .int .i64 0, .int .i64 0]).cells.size]!) = zr5 q := by
  have h : q % 5 < 5 := Nat.mod_lt _ (by omega)
  show (#[Value.int .i64 0, .int .i64 0, .int .i64 0, .int .i64 0, .int .i64 0] : Array Value)[q % 5]! = _
  match q % 5, h with
  | 0, _ => rfl
  | 1, _ => rfl
  | 2, _ => rfl
  | 3, _ => rfl
  | 4, _ => rfl

theorem keptC_at {l : List Rc} : ∀ {i : Nat} {r : Rc}, l[i]? = some r → ∀ c, c < 6 → (keptC l)[i * 6 + c]? = (recC r)[c]? := by
  induction l with
  | nil => intro i r h; simp at h
  | cons a l ih =>
    intro i r h c hc
    cases i with
    | zero =>
      simp at h
      subst h
      simp only [keptC, List.flatMap_cons, Nat.zero_mul, Nat.zero_add]
      rw [List.getElem?_append_left (by simp [recC]; omega)]
    | succ i =>
      simp at h
      have := ih h c hc
      rw [← this]
      simp only [keptC, List.flatMap_cons]
      rw [List.getElem?_append_right (by simp [recC]; omega)]
      congr 1
      simp [recC]
      omega

theorem JRange.own_ne {w : World} {b r n c : Nat} {M : Nat → Nat → Option Nat} {vs : List (Nat × Nat)} (h : JRange w b r n M vs c) {B e k z : Nat} {v : Value} {xs : List Value} (ho : w.ownsRow B e z v k xs) : some r ≠ v.ownBlock ∧ some b ≠ v.ownBlock := by
  obtain ⟨D, left, ⟨es, clock, since, seen, c0, hb, _, _, _, hr, _⟩, _⟩ := h
  obtain ⟨_, ⟨rfl, _⟩ | ⟨g, cap, cur, rfl, _, hg, _⟩⟩ := ho
  · exact ⟨nofun, nofun⟩
  · refine ⟨fun e => ?_, fun e => ?_⟩
    · cases e
      rw [hr] at hg
      cases hg
    · cases e
      rw [hb] at hg
      cases hg

/-- The told list while it is laid. -/
def toldTo (l : List Rc) (k q : Nat) : Value := if q < k * 5 then jobF l q else zr5 q

theorem rowSetC {g t m : Nat} : ∀ (vs : List Value) (o : Nat) (w : World) (f : Nat → Value), w.rowIs g t m f → (w.setCells g o vs).rowIs g t m (fun q => if o ≤ q then (vs[q - o]?).getD (f q) else f q)
  | [], o, w, f, h => h.congr (fun q _ => by simp)
  | u :: r, o, w, f, h => by
    refine (rowSetC r (o + 1) _ _ (h.set o u)).congr (fun q _ => ?_)
    by_cases e : q = o
    · subst e
      rw [if_neg (by omega), if_pos rfl, if_pos (Nat.le_refl _)]
      simp
    · by_cases hl : o ≤ q
      · obtain ⟨d, rfl⟩ : ∃ d, q = o + 1 + d := ⟨q - (o + 1), by omega⟩
        rw [if_pos (by omega), if_pos hl, if_neg e, show o + 1 + d - o = d + 1 from by omega]
        simp
      · rw [if_neg (by omega), if_neg hl, if_neg e]

theorem belowSetC {B g : Nat} {w0 : World} (hg : B ≤ g) : ∀ (vs : List Value) (o : Nat) (w : World), Below B w0 w → Below B w0 (w.setCells g o vs)
  | [], _, _, h => h
  | _ :: r, o, _, h => belowSetC hg r (o + 1) _ (h.setCell hg _)

theorem blk_setC {b g : Nat} (hne : b ≠ g) : ∀ (vs : List Value) (o : Nat) (w : World), (w.setCells g o vs).heap[b]? = w.heap[b]?
  | [], _, _ => rfl
  | _ :: r, o, _ => (blk_setC hne r (o + 1) _).trans (Deep.blk_setCell_other _ _ _ _ (by exact hne))

theorem told_step {wr : World} {l : List Rc} {gb k : Nat} {r : Rc} (h : wr.rowIs gb 93 (l.length * 5) (toldTo l k)) (hr : l[k]? = some r) :
    (wr.setCells gb (k * 5) (#[.int .i64 r.task, .int .i64 r.arr, .int .i64 r.rel, .int .i64 r.done, .int .i64 r.left] : Array Value).toList).rowIs gb 93 (l.length * 5) (toldTo l (k + 1)) := by
  refine (rowSetC _ _ _ _ h).congr (fun q hq => ?_)
  unfold toldTo
  by_cases h1 : k * 5 ≤ q
  · rw [if_pos h1]
    by_cases h2 : q < (k + 1) * 5
    · rw [if_pos h2]
      obtain ⟨c, rfl⟩ : ∃ c, q = k * 5 + c := ⟨q - k * 5, by omega⟩
      have hc : c < 5 := by omega
      unfold jobF
      rw [show (k * 5 + c) / 5 = k from by omega, show (k * 5 + c) % 5 = c from by omega, List.getD_eq_getElem?_getD, keptC_at hr c (by omega), Nat.add_sub_cancel_left]
      match c, hc with
      | 0, _ => rfl
      | 1, _ => rfl
      | 2, _ => rfl
      | 3, _ => rfl
      | 4, _ => rfl
    · rw [if_neg h2, if_neg (by omega)]
      have : (#[.int .i64 r.task, .int .i64 r.arr, .int .i64 r.rel, .int .i64 r.done, .int .i64 r.left] : Array Value).toList[q - k * 5]? = none := List.getElem?_eq_none (by show 5 ≤ _; omega)
      rw [this]
      rfl
  · rw [if_neg h1, if_pos (by omega), if_pos (by omega)]

set_option maxRecDepth 100000 in
set_option maxHeartbeats 2000000 in
theorem mjobs_any (hS : SortC) (S : Sy) (m : Mc) (Y : Lay) (w : World) (ho : Ok S m) (h : MAt w S m Y) :
    Calls Tryz.prog 58 #[.pointer (some ⟨Y.mb, 0, none⟩)] w fun e w' => ∃ g l, e = .returned (.slice (some ⟨g, 0, none⟩) l.length l.length) ∧ w.heap.size ≤ g ∧ w'.rowIs g 93 (l.length * 5) (jobF l) ∧ l.Perm (allRecs S m) ∧ l.Pairwise (fun a b => a.ord ≤ b.ord) ∧ Below w.heap.size w w' := by
  obtain ⟨i0, hi0, hz0, hz1, hz2⟩ := info_parts Tryz.info158
  obtain ⟨i6, hi6, hy0, hy1, hy2⟩ := info_parts Tryz.info93
  have HS : Hid SortC := hS
  have HO : Hid (Ok S m) := ho
  have HM : Hid (MAt w S m Y) := h
  obtain ⟨_, _, c20⟩ := h.mc
  have c21 : w.cell? ⟨Y.mb, 21, none⟩ = some Y.kv := by rw [h.mrow.cell (by omega)]; rfl
  have hml := h.mrow.lt
  have hjl := h.jmap.lt
  have hkn := ho.keptn
  clear hS ho h
  go_enter Tryz.func58, Tryz.ntmps58
  go_wp2_with fail
  refine (clone_recs Y.kv m.kept w hkn HM.out.kept).mono ?_
  rintro e w1 ⟨v, rfl, hown1, hb1⟩
  have hs1 := hb1.size
  have HB1 : Hid (Below w.heap.size w w1) := hb1
  have c20' : w1.cell? ⟨Y.mb, 20, none⟩ = some (.map (some Y.jm)) := (hb1.cell (p := ⟨Y.mb, 20, none⟩) hml).trans c20
  have HJ1 : Hid (JMap w1 Y.jm m.arrd.toNat (live S m Y)) := HM.out.jmap.of_block (hb1.block _ hjl)
  have HO1 : Hid (w1.ownsRow w.heap.size 158 6 v m.kept.length (keptC m.kept)) := hown1
  clear hown1 hb1 c20 c21
  go_wp2_with (first
    | (at_range; refine wpList_jrange rfl _ rfl Y.jm _ _ rfl HJ1.out ?_; intro w2 c0 hrg2 hg2 hs2)
    | go_in)
  go_frame
  have HRG2 : Hid (JRange w2 Y.jm w1.heap.size m.arrd.toNat (live S m Y) [] c0) := hrg2
  have HB2 : Hid (Below w.heap.size w w2) := HB1.out.grown hg2 hs1 (fun k hk => by cases hk)
  have HO2 : Hid (w2.ownsRow w.heap.size 158 6 v m.kept.length (keptC m.kept)) := HO1.out.kept hg2 (by
    obtain ⟨_, ⟨rfl, _⟩ | ⟨g, cap, cur, rfl, _⟩⟩ := HO1.out
    · exact .inl rfl
    · exact .inr (fun e => by cases e))
  clear hrg2 hg2 hs2 c20' HJ1 HO1
  go_loopw [3] (fun v wr => ∃ vs c, JRange wr Y.jm w1.heap.size m.arrd.toNat (live S m Y) vs c ∧ wr.ownsRow w.heap.size 158 6 v (m.kept ++ vs.map (recAt m)).length (keptC (m.kept ++ vs.map (recAt m))) ∧ Below w.heap.size w wr) (fun _ wr => wr.rangeLeft Y.jm w1.heap.size)
  case atStart => exact ⟨[], c0, HRG2.out, by simpa using HO2.out, HB2.out⟩
  case round =>
    obtain ⟨vs, c, hrg, hown, hbel⟩ := hrel
    have HBE : Hid (Below w.heap.size w wr) := hbel
    have hsz := hbel.size
    clear hbel HRG2 HB2 HO2
    have hvl : vs.length ≤ 64 := by
      obtain ⟨D, left, _, _, _, _, _, hnd, hvs⟩ := hrg
      refine Nat.le_trans (List.Nodup.length_le_of_subset hnd (fun p hp => ?_)) (allKeys_len HO.out)
      obtain ⟨_, _, hs⟩ := hvs p hp
      obtain ⟨g, hg⟩ := Option.isSome_iff_exists.1 hs
      exact mem_allKeys.2 (live_some hg).1
    have hll : (m.kept ++ vs.map (recAt m)).length ≤ 104 := by simp; omega
    go_wp2_with (first
      | (at_next; refine wpList_jnext rfl _ rfl Y.jm w1.heap.size m.arrd.toNat c (live S m Y) vs rfl hrg ?_ ?_)
      | go_in)
    · intro hall
      have HP : Hid ((m.kept ++ vs.map (recAt m)).Perm (allRecs S m)) := by
        obtain ⟨D, left, _, _, _, _, _, hnd, hvs⟩ := hrg
        unfold Hid allRecs
        refine List.Perm.append_left _ ?_
        rw [← recs_keys]
        refine List.Perm.map _ ((List.perm_ext_iff_of_nodup hnd (allKeys_nodup S m)).2 (fun p => ⟨fun hp => ?_, fun hp => ?_⟩))
        · obtain ⟨_, _, hs⟩ := hvs p hp
          obtain ⟨g, hg⟩ := Option.isSome_iff_exists.1 hs
          exact mem_allKeys.2 (live_some hg).1
        · obtain ⟨t, i⟩ := p
          have hl := mem_allKeys.1 hp
          have h8 := HO.out.eight
          have hmany := HO.out.many t hl.1
          have harr := HO.out.arrd
          refine hall t i (by have := hl.1; omega) (by have := hl.2.2; omega) ?_
          unfold live
          rw [if_pos hl]
          rfl
      generalize m.kept ++ vs.map (recAt m) = l0 at *
      clear hrg hall
      obtain ⟨ao, cap, rfl⟩ := own_shapeK hown
      have HOW : Hid (wr.ownsRow w.heap.size 158 6 (.slice ao l0.length cap) l0.length (keptC l0)) := hown
      clear hown
      go_wp2_with fail
      refine (HS.out _ l0 _ w.heap.size (by omega) HOW.out).mono ?_
      rintro e w4 ⟨rfl, l, hperm, hsort, hown4, hfr4⟩
      have hlen : l0.length = l.length := hperm.length_eq
      have HP4 : Hid (l.Perm (allRecs S m)) := hperm.symm.trans HP.out
      have HSO : Hid (l.Pairwise (fun a b => a.ord ≤ b.ord)) := hsort
      have hs4 := hfr4.size
      have HB4 : Hid (Below w.heap.size w w4) := HBE.out.trans (hfr4.below hsz (fun q hq => (HOW.out.lt q hq).1))
      rw [hlen] at hown4 hll ⊢
      have HO4 : Hid (w4.ownsRow w.heap.size 158 6 (.slice ao l.length cap) l.length (keptC l)) := hown4
      clear hown4 hfr4 hsort hperm HOW HP HBE hlen
      go_wp2_with (at_make; refine wpList_make_is _ rfl _ _ 90 rfl 93 i6 _ 5 40 Tryz.underlying90 hi6 hy0 hy1 hy2 _ _ _ _ l.length rfl rfl (by omega) (by omega) (by omega) (by omega) zr5 zero_5 ?_)
      intro w5 hr5 hg5 hs5
      have HB5 : Hid (Below w.heap.size w w5) := HB4.out.grown hg5 (by omega) (fun k hk => by cases hk)
      have HR5 : Hid (w5.rowIs w4.heap.size 93 (l.length * 5) (toldTo l 0)) := hr5.congr (fun q _ => by unfold toldTo; rw [if_neg (by omega)])
      have HO5 : Hid (w5.ownsRow w.heap.size 158 6 (.slice ao l.length cap) l.length (keptC l)) := HO4.out.kept hg5 (by
        obtain ⟨_, ⟨h, _⟩ | ⟨g, cap, cur, h, _⟩⟩ := HO4.out
        · rw [h]; exact .inl rfl
        · rw [h]; exact .inr (fun e => by cases e))
      have hwg : w.heap.size ≤ w4.heap.size := by omega
      generalize w4.heap.size = gb at *
      clear hr5 hg5 hs5 HB4 HO4
      go_wp2_with fail
      go_loopw [36] (fun iv wr => ∃ k : Nat, k ≤ l.length ∧ iv = .int .i64 k ∧ wr.rowIs gb 93 (l.length * 5) (toldTo l k) ∧ wr.ownsRow w.heap.size 158 6 (.slice ao l.length cap) l.length (keptC l) ∧ Below w.heap.size w wr) (fun iv _ => l.length - (intOf iv).toNat)
      case atStart => exact ⟨0, Nat.zero_le _, rfl, HR5.out, HO5.out, HB5.out⟩
      case round =>
        obtain ⟨k, hk, rfl, hrow, hown, hbel⟩ := hrel
        by_cases hlt : k < l.length
        · obtain ⟨g, cp, e⟩ : ∃ g cp, (Value.slice ao l.length cap) = .slice (some ⟨g, 0, none⟩) l.length cp := by
            obtain ⟨_, ⟨h, h0⟩ | ⟨g, cp, cur, h, _⟩⟩ := hown
            · omega
            · exact ⟨g, cp, h⟩
          cases e
          obtain ⟨r, hr⟩ : ∃ r, l[k]? = some r := ⟨_, List.getElem?_eq_getElem hlt⟩
          have cc : ∀ c u, c < 6 → (recC r)[c]? = some u → wr.cell? ⟨g, k * 6 + c, none⟩ = some u := fun c u hc hu => by
            have := hown.cells (g := g) rfl (k * 6 + c) u (by rw [keptC_at hr c hc, hu])
            rwa [Addr.add_lit, Nat.zero_add] at this
          have y0 : wr.cell? ⟨g, k * 6, none⟩ = some (.int .i64 r.task) := cc 0 _ (by omega) rfl
          have y1 := cc 1 _ (by omega) rfl
          have y2 := cc 2 _ (by omega) rfl
          have y3 := cc 3 _ (by omega) rfl
          have y4 := cc 4 _ (by omega) rfl
          have hgl := (hown.lt g rfl).2
          have hne : g ≠ gb := fun e => by
            obtain ⟨_, ⟨h, h0⟩ | ⟨g', cp', cur, h, _, hc, _⟩⟩ := hown
            · cases h
            · cases h
              obtain ⟨d, hd, _⟩ := hrow
              rw [← e, hc] at hd
              cases hd
          clear cc
          have e0 : wr.cell? ⟨gb, k * 5, none⟩ = some (toldTo l k (k * 5)) := hrow.cell (by omega)
          have e1 : wr.cell? ⟨gb, k * 5 + 1, none⟩ = some (toldTo l k (k * 5 + 1)) := hrow.cell (by omega)
          have e2 : wr.cell? ⟨gb, k * 5 + 2, none⟩ = some (toldTo l k (k * 5 + 2)) := hrow.cell (by omega)
          have e3 : wr.cell? ⟨gb, k * 5 + 3, none⟩ = some (toldTo l k (k * 5 + 3)) := hrow.cell (by omega)
          have e4 : wr.cell? ⟨gb, k * 5 + 4, none⟩ = some (toldTo l k (k * 5 + 4)) := hrow.cell (by omega)
          have ez : ∀ q, wr.frozen? ⟨gb, q, none⟩ = false := fun q => hrow.frozen q
          have hgbl := hrow.lt
          have FIN : Hid ((wr.setCells gb (k * 5) (#[.int .i64 r.task, .int .i64 r.arr, .int .i64 r.rel, .int .i64 r.done, .int .i64 r.left] : Array Value).toList).rowIs gb 93 (l.length * 5) (toldTo l (k + 1))) := told_step hrow hr
          have FB : Hid (Below w.heap.size w (wr.setCells gb (k * 5) (#[.int .i64 r.task, .int .i64 r.arr, .int .i64 r.rel, .int .i64 r.done, .int .i64 r.left] : Array Value).toList)) := belowSetC hwg _ _ _ hbel
          have FO : Hid ((wr.setCells gb (k * 5) (#[.int .i64 r.task, .int .i64 r.arr, .int .i64 r.rel, .int .i64 r.done, .int .i64 r.left] : Array Value).toList).ownsRow w.heap.size 158 6 (.slice (some ⟨g, 0, none⟩) l.length cap) l.length (keptC l)) := ownsRow_of_block hown (fun b hb => by
            cases hb
            exact blk_setC hne _ _ _)
          clear hrow hown hbel
          go_wp2
          go_roundw
          case rel => exact ⟨k + 1, by omega, by go_num, FIN.out, FO.out, FB.out⟩
          case measure => simp [intOf]; omega
        · obtain rfl : k = l.length := by omega
          have HFR : Hid (wr.rowIs gb 93 (l.length * 5) (jobF l)) := hrow.congr (fun q hq => by unfold toldTo; rw [if_pos hq])
          have HBL : Hid (Below w.heap.size w wr) := hbel
          clear hrow hown hbel
          go_wp2
          go_ret
          exact ⟨gb, l, rfl, hwg, HFR.out, HP4.out, HSO.out, HBL.out⟩
    · intro key t i g w3 c3 ht hi hg hnv hrg3 hc3 hg3 hs3 hen
      obtain ⟨hlv, rfl⟩ := live_some hg
      obtain ⟨h1, h2, h3⟩ := hlv
      obtain ⟨j, hj⟩ : ∃ j, (m.q t)[i - m.done t]? = some j := ⟨_, List.getElem?_eq_getElem (by omega)⟩
      have hrow := (HM.out.jrow t h1 _ j hj).1
      rw [show m.done t + (i - m.done t) = i from by omega] at hrow
      have hjb := hrow.lt
      have HE : Hid (keptC (m.kept ++ vs.map (recAt m)) ++ [.int .i64 t, .int .i64 j.arr, .int .i64 j.rel, .int .i64 (-1), .int .i64 j.left, .int .i64 j.ord] = keptC (m.kept ++ (vs ++ [(t, i)]).map (recAt m))) := by
        unfold Hid
        rw [List.map_append, ← List.append_assoc]
        have : recAt m (t, i) = openRc t j := by unfold recAt; simp only [hj]
        simp only [List.map_cons, List.map_nil, this]
        exact keptC_snoc _ (openRc t j)
      have hown3 := hown.kept hg3 (.inr (fun e => (hrg.own_ne hown).1 e.symm))
      have HB3 : Hid (Below w.heap.size w w3) := HBE.out.grown hg3 hsz (fun k hk => by cases hk; exact hs1)
      have cj : ∀ q, q < 7 → w3.cell? ⟨Y.jb t i, q, none⟩ = some _ := fun q hq => (HB3.out.cell (p := ⟨Y.jb t i, q, none⟩) hjb).trans (hrow.cell hq)
      have j0 : w3.cell? ⟨Y.jb t i, 0, none⟩ = some (.int .i64 t) := cj 0 (by omega)
      have j1 : w3.cell? ⟨Y.jb t i, 1, none⟩ = some (.int .i64 j.arr) := cj 1 (by omega)
      have j2 : w3.cell? ⟨Y.jb t i, 2, none⟩ = some (.int .i64 j.rel) := cj 2 (by omega)
      have j3 : w3.cell? ⟨Y.jb t i, 3, none⟩ = some (.int .i64 (-1)) := cj 3 (by omega)
      have j4 : w3.cell? ⟨Y.jb t i, 4, none⟩ = some (.int .i64 j.left) := cj 4 (by omega)
      have j5 : w3.cell? ⟨Y.jb t i, 5, none⟩ = some (.int .i64 j.ord) := cj 5 (by omega)
      clear cj hrow
      have HRG3 : Hid (JRange w3 Y.jm w1.heap.size m.arrd.toNat (live S m Y) (vs ++ [(t, i)]) c3) := hrg3
      have hle := hrg.left_eq
      have HLE : Hid (wr.rangeLeft Y.jm w1.heap.size = c) := hle
      have hne3 := hrg3.own_ne hown3
      have hs3b : w.heap.size ≤ w3.heap.size := HB3.out.size
      have hjb3 : Y.jb t i < w3.heap.size := by omega
      clear hrg hown hg3 hrg3 hle hs3
      obtain ⟨ao, cap, hvv⟩ := own_shapeK hown3
      subst hvv
      have HOW3 := hown3.alloc (.cells #[.int .i64 t, .int .i64 j.arr, .int .i64 j.rel, .int .i64 (-1), .int .i64 j.left, .int .i64 j.ord] 158)
      have hlt3 := hown3.lt
      generalize hll0 : (m.kept ++ vs.map (recAt m)).length = n0 at *
      clear hown3
      have HNR := new_rec w3 (.int .i64 t) (.int .i64 j.arr) (.int .i64 j.rel) (.int .i64 (-1)) (.int .i64 j.left) (.int .i64 j.ord)
      go_wp2_with (at_builtin; refine wpList_append_own _ rfl _ _ 140 rfl w.heap.size 158 i0 _ 6 48 Tryz.underlying140 hi0 hz0 hz1 hz2 rfl (by decide) _ _ _ rfl HOW3 ⟨w3.heap.size, 0, none⟩ 1 1 [.int .i64 t, .int .i64 j.arr, .int .i64 j.rel, .int .i64 (-1), .int .i64 j.left, .int .i64 j.ord] rfl rfl HNR (by simp [Value.oneCell']) (by unfold maxLen; omega) (by omega) (by simp; omega) ?_)
      intro v5 w5 hown5 hg5 _
      have HB5 : Hid (Below w.heap.size w w5) := (HB3.out.alloc hs3b _).grown hg5 (by simp; omega) (fun k hk => (hlt3 k hk).1)
      have HRG5 : Hid (JRange w5 Y.jm w1.heap.size m.arrd.toNat (live S m Y) (vs ++ [(t, i)]) c3) := (HRG3.out.kept (World.grownBy_alloc w3 _ none) (by simp) (by simp)).kept hg5 hne3.2 hne3.1
      rw [HE.out] at hown5
      have HO5 : Hid (w5.ownsRow w.heap.size 158 6 v5 (n0 + 1) (keptC (m.kept ++ (vs ++ [(t, i)]).map (recAt m)))) := hown5
      clear hown5 hg5 HOW3 HNR
      go_wp2
      go_roundw
      case rel => exact ⟨vs ++ [(t, i)], c3, HRG5.out, by have e : (m.kept ++ (vs ++ [(t, i)]).map (recAt m)).length = n0 + 1 := (by rw [← hll0]; simp; omega); rw [e]; exact HO5.out, HB5.out⟩
      case measure => rw [HRG5.out.left_eq, HLE.out]; exact hc3

end Go.Proofs.YtdabcflpcklfiaaGreat

/- Look and Jobs of a kernel. -/
namespace Go.Proofs.YtdabcflpcklfiaaGreat
open Go.RowKit Cad Go.MuLone

theorem row2 {w : World} {b t : Nat} {f : Nat → Value} (h : w.rowIs b t 2 f) : w.heap[b]? = some (.cells #[f 0, f 1] t (0, 0)) := by
  obtain ⟨c, hc, hs, hf⟩ := h
  rw [hc]
  have : c = #[f 0, f 1] := by
    apply Array.ext
    · rw [hs]; rfl
    · intro i h1 h2
      have hi : i < 2 := by rw [← hs]; exact h1
      have := hf i hi
      match i, hi with
      | 0, _ => simpa using (Array.getElem?_eq_some_iff.1 (by simpa using this)).2
      | 1, _ => simpa using (Array.getElem?_eq_some_iff.1 (by simpa using this)).2
  rw [this]

set_option maxHeartbeats 1000000 in
theorem mlook_any (S : Sy) (m : Mc) (Y : Lay) (w : World) (h : MAt w S m Y) :
    Calls Tryz.prog 57 #[.pointer (some ⟨Y.mb, 0, none⟩)] w fun e w' => e = .returned (.agg #[.int .i64 m.now, .int .i64 m.idle]) ∧ Below w.heap.size w w' := by
  have c0 : w.cell? ⟨Y.mb, 0, none⟩ = some (.int .i64 m.now) := by rw [h.mrow.cell (by omega)]; rfl
  have c1 : w.cell? ⟨Y.mb, 1, none⟩ = some (.int .i64 m.idle) := by rw [h.mrow.cell (by omega)]; rfl
  have hml := h.mrow.lt
  clear h
  go_enter Tryz.func57, Tryz.ntmps57
  go_wp2
  go_region
  go_wp2
  refine bodyPost_ret (results_cell_row rfl _ _ w.heap.size 88 #[.int .i64 m.now, .int .i64 m.idle] (0, 0) _ rfl (Deep.blk_alloc_new _ _) Tryz.underlying88 rfl (by kernel_rfl)) rfl ?_
  exact ⟨rfl, (below_alloc1 _ _).drew⟩

set_option maxHeartbeats 1000000 in
theorem klook_any (kb : Nat) (S : Sy) (m : Mc) (Y : Lay) (w : World) (h : KAt w kb S m Y) :
    Calls Tryz.prog 32 #[.pointer (some ⟨kb, 0, none⟩)] w fun e w' => e = .returned (.agg #[.int .i64 m.now, .int .i64 m.idle]) ∧ KMoved kb S m m Y Y w w' := by
  have hkl := h.krow.lt
  have c0 : (w.alloc (.cells #[.int .i64 0, .int .i64 0] 88)).cell? ⟨kb, 0, none⟩ = some (.int .i32 0) := ((below_alloc1 w _).cell (p := ⟨kb, 0, none⟩) hkl).trans (by rw [h.krow.cell (by omega)]; rfl)
  have c2 : w.cell? ⟨kb, 2, none⟩ = some (.pointer (some ⟨Y.mb, 0, none⟩)) := by rw [h.krow.cell (by omega)]; rfl
  have z0 : (w.alloc (.cells #[.int .i64 0, .int .i64 0] 88)).frozen? ⟨kb, 0, none⟩ = false := (h.krow.alloc _).frozen 0
  have HK : Hid (KAt w kb S m Y) := h
  clear h
  go_enter_defers Tryz.func32, Tryz.ntmps32
  go_wp2_with (go_at_call 52; refine (lock_free Tryz.muLib ⟨kb, 0, none⟩ _ c0 z0).mono ?_; rintro e w' ⟨rfl, rfl⟩)
  refine (mlook_any S m Y _ ((HK.out.locked _).below (below_alloc1 _ _))).mono ?_
  rintro e w2 ⟨rfl, hb2⟩
  have hrow : w2.rowIs w.heap.size 88 2 (fun _ => .int .i64 0) := by
    have h1 := World.rowIs_alloc (w.setCell ⟨kb, 0, none⟩ (.int .i32 1)) #[.int .i64 0, .int .i64 0] 88 (fun _ => .int .i64 0) (fun i hi => by
      have hi' : i < 2 := hi
      match i, hi' with
      | 0, _ => rfl
      | 1, _ => rfl)
    have h2 := h1.of_block (hb2.block _ h1.lt)
    simpa using h2
  have x0 : w2.cell? ⟨w.heap.size, 0, none⟩ = some (.int .i64 0) := hrow.cell (by omega)
  have x1 : w2.cell? ⟨w.heap.size, 1, none⟩ = some (.int .i64 0) := hrow.cell (by omega)
  have xz : ∀ q, w2.frozen? ⟨w.heap.size, q, none⟩ = false := fun q => hrow.frozen q
  have hb3 : Below (w.setCell ⟨kb, 0, none⟩ (.int .i32 1)).heap.size (w.setCell ⟨kb, 0, none⟩ (.int .i32 1)) ((w2.setCell ⟨w.heap.size, 0, none⟩ (.int .i64 m.now)).setCell ⟨w.heap.size, 1, none⟩ (.int .i64 m.idle)) := (((below_alloc1 _ _).trans (hb2.mono (by simp))).setCell (by simp) _).setCell (by simp) _
  obtain ⟨q0, qz, hkm⟩ := unlocked HK.out (Moved.refl (HK.out.locked _) HK.out.sep hb3) HK.out.ok
  have HKM : Hid (KMoved kb S m m Y Y w (((w2.setCell ⟨w.heap.size, 0, none⟩ (.int .i64 m.now)).setCell ⟨w.heap.size, 1, none⟩ (.int .i64 m.idle)).setCell ⟨kb, 0, none⟩ (.int .i32 0))) := hkm
  have HRR : Hid ((((w2.setCell ⟨w.heap.size, 0, none⟩ (.int .i64 m.now)).setCell ⟨w.heap.size, 1, none⟩ (.int .i64 m.idle)).setCell ⟨kb, 0, none⟩ (.int .i32 0)).rowIs w.heap.size 88 2 (fun q => if q = 1 then .int .i64 m.idle else if q = 0 then .int .i64 m.now else .int .i64 0)) := ((hrow.set 0 _).set 1 _).setOther (by show w.heap.size ≠ kb; omega) _
  clear hkm hb2 hb3 hrow
  go_wp2
  refine leaves_cons (f := 53) (args := #[.pointer (some ⟨kb, 0, none⟩)]) (by simp) (by simp [go_sem]) ?_
  refine (unlock_deferred Tryz.muLib ⟨kb, 0, none⟩ .returning _ q0 qz).mono ?_
  rintro e u' w'' ⟨rfl, rfl, rfl⟩
  refine ⟨_, results_cell_row rfl _ _ w.heap.size 88 #[.int .i64 m.now, .int .i64 m.idle] (0, 0) _ rfl (row2 HRR.out) Tryz.underlying88 rfl (by kernel_rfl), ⟨rfl, HKM.out⟩⟩

set_option maxHeartbeats 1000000 in
theorem kjobs_any (hS : SortC) (kb : Nat) (S : Sy) (m : Mc) (Y : Lay) (w : World) (h : KAt w kb S m Y) :
    Calls Tryz.prog 33 #[.pointer (some ⟨kb, 0, none⟩)] w fun e w' => ∃ g l, e = .returned (.slice (some ⟨g, 0, none⟩) l.length l.length) ∧ w.heap.size ≤ g ∧ w'.rowIs g 93 (l.length * 5) (jobF l) ∧ l.Perm (allRecs S m) ∧ l.Pairwise (fun a b => a.ord ≤ b.ord) ∧ KMoved kb S m m Y Y w w' := by
  have c0 : w.cell? ⟨kb, 0, none⟩ = some (.int .i32 0) := by rw [h.krow.cell (by omega)]; rfl
  have c2 : w.cell? ⟨kb, 2, none⟩ = some (.pointer (some ⟨Y.mb, 0, none⟩)) := by rw [h.krow.cell (by omega)]; rfl
  have z0 := h.krow.frozen 0
  have hkl := h.krow.lt
  have HK : Hid (KAt w kb S m Y) := h
  clear h
  go_enter_defers Tryz.func33, Tryz.ntmps33
  go_wp2_with (go_at_call 52; refine (lock_free Tryz.muLib ⟨kb, 0, none⟩ _ c0 z0).mono ?_; rintro e w' ⟨rfl, rfl⟩)
  refine (mjobs_any hS S m Y _ HK.out.ok (HK.out.locked _)).mono ?_
  rintro e w2 ⟨g, l, rfl, hg, hrow, hperm, hsort, hb2⟩
  have hg' : w.heap.size ≤ g := by simpa using hg
  obtain ⟨q0, qz, hkm⟩ := unlocked HK.out (Moved.refl (HK.out.locked _) HK.out.sep hb2) HK.out.ok
  have HKM : Hid (KMoved kb S m m Y Y w (w2.setCell ⟨kb, 0, none⟩ (.int .i32 0))) := hkm
  have HROW : Hid ((w2.setCell ⟨kb, 0, none⟩ (.int .i32 0)).rowIs g 93 (l.length * 5) (jobF l)) := hrow.setOther (by show g ≠ kb; omega) _
  have HP : Hid (l.Perm (allRecs S m)) := hperm
  have HSO : Hid (l.Pairwise (fun a b => a.ord ≤ b.ord)) := hsort
  clear hkm hb2 hrow hperm hsort hg
  go_wp2
  refine leaves_cons (f := 53) (args := #[.pointer (some ⟨kb, 0, none⟩)]) (by simp) (by simp [go_sem]) ?_
  refine (unlock_deferred Tryz.muLib ⟨kb, 0, none⟩ .returning _ q0 qz).mono ?_
  rintro e u' w'' ⟨rfl, rfl, rfl⟩
  exact ⟨_, results_tmp rfl _ _ _, ⟨g, l, rfl, hg', HROW.out, HP.out, HSO.out, HKM.out⟩⟩

theorem kst_look {own : Nat → Prop} {w : World} {kb : Nat} {S : Sy} {m : Mc} (hown : ∀ q, own q → q < w.heap.size) (h : KSt own w kb S m) :
    Calls Tryz.prog 32 #[.pointer (some ⟨kb, 0, none⟩)] w fun e w' => e = .returned (.agg #[.int .i64 m.now, .int .i64 m.idle]) ∧ KSt own w' kb S m ∧ Fr (fun q => ¬ own q) w w' := by
  obtain ⟨Y, hk, ho⟩ := h
  refine (klook_any kb S m Y w hk).mono ?_
  rintro e w' ⟨he, hm⟩
  exact ⟨he, KSt.moved hown ho hm⟩

theorem kst_jobs (hS : SortC) {own : Nat → Prop} {w : World} {kb : Nat} {S : Sy} {m : Mc} (hown : ∀ q, own q → q < w.heap.size) (h : KSt own w kb S m) :
    Calls Tryz.prog 33 #[.pointer (some ⟨kb, 0, none⟩)] w fun e w' => ∃ g l, e = .returned (.slice (some ⟨g, 0, none⟩) l.length l.length) ∧ w.heap.size ≤ g ∧ w'.rowIs g 93 (l.length * 5) (jobF l) ∧ l.Perm (allRecs S m) ∧ l.Pairwise (fun a b => a.ord ≤ b.ord) ∧
      KSt (fun q => own q ∨ q = g) w' kb S m ∧ Fr (fun q => ¬ own q) w w' := by
  obtain ⟨Y, hk, ho⟩ := h
  refine (kjobs_any hS kb S m Y w hk).mono ?_
  rintro e w' ⟨g, l, he, hg, hrow, hp, hs, hm⟩
  obtain ⟨h1, h2⟩ := KSt.moved hown ho hm
  refine ⟨g, l, he, hg, hrow, hp, hs, ⟨Y, hm.kat, fun q hq hoq => ?_⟩, h2⟩
  rcases hoq with hoq | rfl
  · exact ho q hq hoq
  · have := hk.foot_lt hq; omega

end Go.Proofs.YtdabcflpcklfiaaGreat
