import Derived.Test.YtdabcflpcklfiaaGreatVt
import Derived.Test.YtdabcflpcklfiaaGreatSb
import Derived.Test.YtdabcflpcklfiaaGreatSd
import Derived.Test.YtdabcflpcklfiaaGreatVr
/- Plain mathematics of Counted: the records of the jobs, what is left, who holds what. -/
namespace Go.Proofs.YtdabcflpcklfiaaGreat
open Cad

/-- What holds of the records. -/
structure KI (S : Sy) (m : Mc) : Prop where
  kept : ∀ r ∈ m.kept, 0 ≤ r.arr ∧ r.arr ≤ r.rel ∧ r.left = 0 ∧ r.rel < r.done
  opn : ∀ t, t < S.n → ∀ j ∈ m.q t, 0 ≤ j.arr ∧ j.arr ≤ j.rel
  ord : ∀ r ∈ allRecs S m, r.ord < m.arrd ∧ r.arr ≤ m.now
  mono : ∀ r ∈ allRecs S m, ∀ r' ∈ allRecs S m, r.ord ≤ r'.ord → r.arr ≤ r'.arr

theorem mem_recs {S : Sy} {m : Mc} {r : Rc} : r ∈ allRecs S m ↔ r ∈ m.kept ∨ ∃ t, t < S.n ∧ ∃ j ∈ m.q t, r = openRc t j := by
  unfold allRecs
  simp only [List.mem_append, List.mem_flatMap, List.mem_range, List.mem_map]
  constructor
  · rintro (h | ⟨t, ht, j, hj, rfl⟩)
    · exact .inl h
    · exact .inr ⟨t, ht, j, hj, rfl⟩
  · rintro (h | ⟨t, ht, j, hj, rfl⟩)
    · exact .inl h
    · exact .inr ⟨t, ht, j, hj, rfl⟩

theorem ki_start (S : Sy) : KI S Cad.start where
  kept r hr := by cases hr
  opn t _ j hj := by cases hj
  ord r hr := by
    rcases mem_recs.1 hr with h | ⟨t, _, j, hj, _⟩
    · cases h
    · cases hj
  mono r hr := by
    rcases mem_recs.1 hr with h | ⟨t, _, j, hj, _⟩
    · cases h
    · cases hj

/-- Each record there is, has one like it before. -/
theorem KI.sub {S : Sy} {m m' : Mc} (h : KI S m) (hk : ∀ r ∈ m'.kept, 0 ≤ r.arr ∧ r.arr ≤ r.rel ∧ r.left = 0 ∧ r.rel < r.done) (ho : ∀ t, t < S.n → ∀ j ∈ m'.q t, 0 ≤ j.arr ∧ j.arr ≤ j.rel)
    (hs : ∀ r ∈ allRecs S m', ∃ r0 ∈ allRecs S m, r0.ord = r.ord ∧ r0.arr = r.arr) (ha : m.arrd ≤ m'.arrd) (hn : m.now ≤ m'.now) : KI S m' where
  kept := hk
  opn := ho
  ord r hr := by
    obtain ⟨r0, h0, e1, e2⟩ := hs r hr
    have := h.ord r0 h0
    omega
  mono r hr r' hr' hle := by
    obtain ⟨r0, h0, e1, e2⟩ := hs r hr
    obtain ⟨r1, h1, e3, e4⟩ := hs r' hr'
    have := h.mono r0 h0 r1 h1 (by omega)
    omega

theorem ki_idle {S : Sy} {m : Mc} (h : KI S m) : KI S { m with now := m.now + 1, idle := m.idle + 1 } :=
  h.sub h.kept h.opn (fun r hr => ⟨r, hr, rfl, rfl⟩) (Int.le_refl _) (by show m.now ≤ m.now + 1; omega)

theorem runJ_same (S : Sy) (t : Nat) (h : Nat → Int) (j : Jb) : (runJ S t h j).2.arr = j.arr ∧ (runJ S t h j).2.rel = j.rel ∧ (runJ S t h j).2.ord = j.ord := by
  unfold runJ runK
  simp only []
  split <;> exact ⟨rfl, rfl, rfl⟩

theorem ki_tick {S : Sy} {m : Mc} (ho : Ok S m) (h : KI S m) {t : Nat} {j : Jb} {r : List Jb} (ht : t < S.n) (hq : m.q t = j :: r) (hrel : j.rel ≤ m.now) : KI S (tickAt S m t j r).1 := by
  obtain ⟨e1, e2, e3⟩ := runJ_same S t m.hold j
  have hj := h.opn t ht j (by rw [hq]; simp)
  have hk := runK_ok (t := t) (h := m.hold) (ho.job t ht j (by rw [hq]; simp)).1
  have old : ∀ a, a < S.n → ∀ x ∈ m.q a, openRc a x ∈ allRecs S m := fun a ha x hx => mem_recs.2 (.inr ⟨a, ha, x, hx, rfl⟩)
  have hjm : openRc t j ∈ allRecs S m := old t ht j (by rw [hq]; simp)
  unfold tickAt
  simp only []
  split
  · refine h.sub h.kept (fun a ha x hx => ?_) (fun y hy => ?_) (Int.le_refl _) (by show m.now ≤ m.now + 1; omega)
    · have hx' : x ∈ upd m.q t ((runJ S t m.hold j).2 :: r) a := hx
      by_cases e : a = t
      · subst e
        rw [upd_same] at hx'
        rcases List.mem_cons.1 hx' with g | g
        · rw [g, e1, e2]; exact hj
        · exact h.opn a ha x (by rw [hq]; exact List.mem_cons_of_mem _ g)
      · rw [upd_other _ _ e] at hx'
        exact h.opn a ha x hx'
    · rcases mem_recs.1 hy with g | ⟨a, ha, x, hx, rfl⟩
      · exact ⟨y, mem_recs.2 (.inl g), rfl, rfl⟩
      · have hx' : x ∈ upd m.q t ((runJ S t m.hold j).2 :: r) a := hx
        by_cases e : a = t
        · subst e
          rw [upd_same] at hx'
          rcases List.mem_cons.1 hx' with g | g
          · exact ⟨_, hjm, by rw [g]; exact e3.symm, by rw [g]; exact e1.symm⟩
          · exact ⟨_, old a ha x (by rw [hq]; exact List.mem_cons_of_mem _ g), rfl, rfl⟩
        · rw [upd_other _ _ e] at hx'
          exact ⟨_, old a ha x hx', rfl, rfl⟩
  · rename_i hp
    have hleft : (runJ S t m.hold j).2.left = 0 := by
      have h1 : (runK (S.K t) (S.L t) t m.hold j).2.p ≤ S.L t := hk.1
      have h2 : ¬ (runK (S.K t) (S.L t) t m.hold j).2.p < S.L t := hp
      exact hk.2.2.1 (by omega)
    have hkeep : ∀ y ∈ keep m.kept ⟨(t : Int), j.arr, j.rel, m.now + 1, (runJ S t m.hold j).2.left, j.ord⟩, y ∈ m.kept ∨ y = ⟨(t : Int), j.arr, j.rel, m.now + 1, (runJ S t m.hold j).2.left, j.ord⟩ := by
      intro y hy
      unfold keep at hy
      rcases List.mem_append.1 hy with g | g
      · split at g
        · exact .inl (List.mem_of_mem_tail g)
        · exact .inl g
      · exact .inr (List.mem_singleton.1 g)
    refine h.sub (fun y hy => ?_) (fun a ha x hx => ?_) (fun y hy => ?_) (Int.le_refl _) (by show m.now ≤ m.now + 1; omega)
    · rcases hkeep y hy with g | g
      · exact h.kept y g
      · rw [g]
        exact ⟨hj.1, hj.2, hleft, by show j.rel < m.now + 1; omega⟩
    · have hx' : x ∈ upd m.q t r a := hx
      by_cases e : a = t
      · subst e
        rw [upd_same] at hx'
        exact h.opn a ha x (by rw [hq]; exact List.mem_cons_of_mem _ hx')
      · rw [upd_other _ _ e] at hx'
        exact h.opn a ha x hx'
    · rcases mem_recs.1 hy with g | ⟨a, ha, x, hx, rfl⟩
      · rcases hkeep y g with g | g
        · exact ⟨y, mem_recs.2 (.inl g), rfl, rfl⟩
        · exact ⟨_, hjm, by rw [g]; rfl, by rw [g]; rfl⟩
      · have hx' : x ∈ upd m.q t r a := hx
        by_cases e : a = t
        · subst e
          rw [upd_same] at hx'
          exact ⟨_, old a ha x (by rw [hq]; exact List.mem_cons_of_mem _ hx'), rfl, rfl⟩
        · rw [upd_other _ _ e] at hx'
          exact ⟨_, old a ha x hx', rfl, rfl⟩

theorem ki_tick' {S : Sy} {m : Mc} (ho : Ok S m) (h : KI S m) : KI S (tick S m).1 := by
  rcases tick_cases S m with ⟨_, e⟩ | ⟨t, j, l, ht, hq, hr, _, e⟩
  · rw [e]; exact ki_idle h
  · rw [e]; exact ki_tick ho h ht hq hr

theorem ki_added {S : Sy} {m : Mc} (h : KI S m) (hn : 0 ≤ m.now) {t : Nat} {jit : Int} {D : Nat → Int} (hj : 0 ≤ jit) : KI S (added S m t jit D) := by
  have hq : ∀ a x, x ∈ (added S m t jit D).q a → x ∈ m.q a ∨ x = jobOf S m t jit D := by
    intro a x hx
    have hx' : x ∈ upd m.q t (m.q t ++ [jobOf S m t jit D]) a := hx
    by_cases e : a = t
    · subst e
      rw [upd_same] at hx'
      rcases List.mem_append.1 hx' with g | g
      · exact .inl g
      · exact .inr (List.mem_singleton.1 g)
    · rw [upd_other _ _ e] at hx'
      exact .inl hx'
  have hrec : ∀ r ∈ allRecs S (added S m t jit D), r ∈ allRecs S m ∨ (r.ord = m.arrd ∧ r.arr = m.now) := by
    intro r hr
    rcases mem_recs.1 hr with g | ⟨a, ha, x, hx, rfl⟩
    · exact .inl (mem_recs.2 (.inl g))
    · rcases hq a x hx with g | g
      · exact .inl (mem_recs.2 (.inr ⟨a, ha, x, g, rfl⟩))
      · rw [g]; exact .inr ⟨rfl, rfl⟩
  refine ⟨h.kept, fun a ha x hx => ?_, fun r hr => ?_, fun r hr r' hr' hle => ?_⟩
  · rcases hq a x hx with g | g
    · exact h.opn a ha x g
    · rw [g]
      exact ⟨hn, by show m.now ≤ m.now + jit; omega⟩
  · show r.ord < m.arrd + 1 ∧ r.arr ≤ m.now
    rcases hrec r hr with g | g
    · have := h.ord r g; omega
    · omega
  · rcases hrec r hr with g | g
    · have g0 := h.ord r g
      rcases hrec r' hr' with g' | g'
      · exact h.mono r g r' g' hle
      · omega
    · rcases hrec r' hr' with g' | g'
      · have := h.ord r' g'; omega
      · omega

theorem ki_arrive {S : Sy} {m : Mc} (h : KI S m) (hn : 0 ≤ m.now) (x jit : Int) (D : Nat → Int) (d : Nat) : KI S (arrive S m x jit D d).1 := by
  unfold arrive
  split
  · exact h
  · split
    · exact h
    · rename_i h2
      exact ki_added h hn (refuse_zero (Classical.not_not.1 h2)).2.1

/-! ### sums over the records -/
def sumRec : List Rc → Int
  | [] => 0
  | r :: l => r.left + sumRec l
def cntOpen : List Rc → Int
  | [] => 0
  | r :: l => (if r.done < 0 then 1 else 0) + cntOpen l

theorem sumRec_perm {a b : List Rc} (h : a.Perm b) : sumRec a = sumRec b := by
  induction h with
  | nil => rfl
  | cons x _ ih => show x.left + _ = x.left + _; rw [ih]
  | swap x y l => show y.left + (x.left + sumRec l) = x.left + (y.left + sumRec l); omega
  | trans _ _ i1 i2 => exact i1.trans i2

theorem cntOpen_perm {a b : List Rc} (h : a.Perm b) : cntOpen a = cntOpen b := by
  induction h with
  | nil => rfl
  | cons x _ ih => show _ + _ = _ + _; rw [ih]
  | swap x y l => show (if y.done < 0 then 1 else 0) + ((if x.done < 0 then 1 else 0) + cntOpen l) = (if x.done < 0 then 1 else 0) + ((if y.done < 0 then 1 else 0) + cntOpen l); omega
  | trans _ _ i1 i2 => exact i1.trans i2

theorem sumRec_app : ∀ (a b : List Rc), sumRec (a ++ b) = sumRec a + sumRec b
  | [], b => by show sumRec b = 0 + sumRec b; omega
  | x :: a, b => by
    show x.left + sumRec (a ++ b) = x.left + sumRec a + sumRec b
    rw [sumRec_app a b]; omega

theorem cntOpen_app : ∀ (a b : List Rc), cntOpen (a ++ b) = cntOpen a + cntOpen b
  | [], b => by show cntOpen b = 0 + cntOpen b; omega
  | x :: a, b => by
    show _ + cntOpen (a ++ b) = _ + cntOpen a + cntOpen b
    rw [cntOpen_app a b]; omega

def lenTo (m : Mc) : Nat → Int
  | 0 => 0
  | k + 1 => lenTo m k + (m.q k).length

theorem sumRec_open (t : Nat) : ∀ l : List Jb, sumRec (l.map (openRc t)) = leftQ l
  | [] => rfl
  | j :: l => by
    show j.left + sumRec (l.map (openRc t)) = j.left + leftQ l
    rw [sumRec_open t l]

theorem cntOpen_open (t : Nat) : ∀ l : List Jb, cntOpen (l.map (openRc t)) = l.length
  | [] => rfl
  | j :: l => by
    show (if (-1 : Int) < 0 then 1 else 0) + cntOpen (l.map (openRc t)) = ((l.length + 1 : Nat) : Int)
    rw [cntOpen_open t l, if_pos (by decide)]
    omega

theorem sum_to (m : Mc) : ∀ k, sumRec ((List.range k).flatMap fun t => (m.q t).map (openRc t)) = leftTo m k
  | 0 => rfl
  | k + 1 => by
    rw [List.range_succ, List.flatMap_append, sumRec_app, sum_to m k]
    show leftTo m k + sumRec ([k].flatMap fun t => (m.q t).map (openRc t)) = leftTo m k + leftQ (m.q k)
    rw [List.flatMap_singleton, sumRec_open]

theorem cnt_to (m : Mc) : ∀ k, cntOpen ((List.range k).flatMap fun t => (m.q t).map (openRc t)) = lenTo m k
  | 0 => rfl
  | k + 1 => by
    rw [List.range_succ, List.flatMap_append, cntOpen_app, cnt_to m k]
    show lenTo m k + cntOpen ([k].flatMap fun t => (m.q t).map (openRc t)) = lenTo m k + (m.q k).length
    rw [List.flatMap_singleton, cntOpen_open]

theorem sum_kept : ∀ (l : List Rc), (∀ r ∈ l, r.left = 0) → sumRec l = 0
  | [], _ => rfl
  | r :: l, h => by
    show r.left + sumRec l = 0
    rw [sum_kept l (fun x hx => h x (List.mem_cons_of_mem _ hx)), h r (by simp)]; rfl

theorem cnt_kept : ∀ (l : List Rc), (∀ r ∈ l, 0 ≤ r.done) → cntOpen l = 0
  | [], _ => rfl
  | r :: l, h => by
    have h0 := h r (by simp)
    show (if r.done < 0 then 1 else 0) + cntOpen l = 0
    rw [cnt_kept l (fun x hx => h x (List.mem_cons_of_mem _ hx)), if_neg (by omega)]; rfl

theorem KI.sums {S : Sy} {m : Mc} (h : KI S m) {l : List Rc} (hp : l.Perm (allRecs S m)) : sumRec l = leftTo m S.n ∧ cntOpen l = lenTo m S.n := by
  rw [sumRec_perm hp, cntOpen_perm hp]
  unfold allRecs
  rw [sumRec_app, cntOpen_app, sum_to, cnt_to, sum_kept _ (fun r hr => (h.kept r hr).2.2.1), cnt_kept _ (fun r hr => by have := h.kept r hr; omega)]
  omega

theorem sumRec_take (l : List Rc) {i : Nat} {r : Rc} (h : l[i]? = some r) : sumRec (l.take (i + 1)) = sumRec (l.take i) + r.left := by
  have hi := (List.getElem?_eq_some_iff.1 h).1
  have e : l.take (i + 1) = l.take i ++ [r] := by
    rw [List.take_add_one, h]; rfl
  rw [e, sumRec_app]
  show _ + (r.left + 0) = _
  omega

theorem cntOpen_take (l : List Rc) {i : Nat} {r : Rc} (h : l[i]? = some r) : cntOpen (l.take (i + 1)) = cntOpen (l.take i) + (if r.done < 0 then 1 else 0) := by
  have e : l.take (i + 1) = l.take i ++ [r] := by
    rw [List.take_add_one, h]; rfl
  rw [e, cntOpen_app]
  show _ + ((if r.done < 0 then 1 else 0) + 0) = _
  omega

/-- What the law's loop tests of a record. -/
theorem KI.recs {S : Sy} {m : Mc} (h : KI S m) {r : Rc} (hr : r ∈ allRecs S m) : 0 ≤ r.arr ∧ r.arr ≤ r.rel ∧ ((0 ≤ r.done ∧ r.left = 0 ∧ r.rel < r.done) ∨ r.done = -1) := by
  rcases mem_recs.1 hr with g | ⟨t, ht, j, hj, rfl⟩
  · have := h.kept r g
    exact ⟨this.1, this.2.1, .inl ⟨by omega, this.2.2⟩⟩
  · have := h.opn t ht j hj
    exact ⟨this.1, this.2, .inr rfl⟩

/-! ### who holds what -/
def wnt (u : Wt) (r : Int) : Nat → Int
  | 0 => -1
  | t + 1 => if ∃ x ∈ u.runs t, r ∈ x.held then (t : Int) else wnt u r t

theorem holds_iff {S : Sy} {m : Mc} {u : Wt} (hs : SyOk S) (ho : Ok S m) (hk : LkInv S m) (h : WI S m u) {t r : Nat} (ht : t < S.n) (hr : r < 8) : (∃ x ∈ u.runs t, (r : Int) ∈ x.held) ↔ m.hold r = (t : Int) := by
  rw [hk.iff r t hr ht]
  constructor
  · rintro ⟨x, hx, hm⟩
    obtain ⟨i, hi, e⟩ := List.getElem_of_mem hx
    have hl := h.len t ht
    obtain ⟨j, hj⟩ : ∃ j, (m.q t)[i]? = some j := ⟨_, List.getElem?_eq_getElem (by omega)⟩
    have hjw := h.jw t ht i x j (by rw [List.getElem?_eq_getElem hi, e]) hj
    have hlt := (ho.job t ht j (List.mem_of_getElem? hj)).1.lt
    have hin := (held_inside (r := r) (hs.prog t ht) (Nat.le_of_lt hlt) hjw.held).1 hm
    cases hq : m.q t with
    | nil => rw [hq] at hj; simp at hj
    | cons y l =>
      rw [hq] at hj
      cases i with
      | zero =>
        simp at hj
        subst hj
        exact ⟨y, l, rfl, hin⟩
      | succ i =>
        have hp := hk.rest t y l ht hq j (List.mem_of_getElem? (by simpa using hj))
        have hh := hjw.held
        rw [hp] at hh
        have : x.held = [] := by
          have e2 : stTo (S.K t) (S.N t) 0 = some [] := rfl
          rw [e2] at hh
          exact (Option.some.inj hh).symm
        rw [this] at hm
        cases hm
  · rintro ⟨j, l, hq, hin⟩
    obtain ⟨x, l', hx, hjw, _⟩ := h.head ht hq
    have hlt := (ho.job t ht j (by rw [hq]; simp)).1.lt
    exact ⟨x, by rw [hx]; simp, (held_inside (r := r) (hs.prog t ht) (Nat.le_of_lt hlt) hjw.held).2 hin⟩

theorem wnt_le {S : Sy} {m : Mc} {u : Wt} (hs : SyOk S) (ho : Ok S m) (hk : LkInv S m) (h : WI S m u) {r : Nat} (hr : r < 8) : ∀ k, k ≤ S.n → wnt u (r : Int) k = if 0 ≤ m.hold r ∧ m.hold r < (k : Int) then m.hold r else -1
  | 0, _ => by
    show (-1 : Int) = _
    rw [if_neg (by omega)]
  | k + 1, hk' => by
    have ih := wnt_le hs ho hk h hr k (by omega)
    have hi := holds_iff hs ho hk h (t := k) (by omega) hr
    have e : wnt u (r : Int) (k + 1) = if ∃ x ∈ u.runs k, (r : Int) ∈ x.held then (k : Int) else wnt u (r : Int) k := rfl
    rw [e]
    by_cases g : ∃ x ∈ u.runs k, (r : Int) ∈ x.held
    · rw [if_pos g]
      have := hi.1 g
      rw [if_pos (by omega)]
      omega
    · rw [if_neg g, ih]
      have hne : m.hold r ≠ (k : Int) := fun e => g (hi.2 e)
      by_cases c : 0 ≤ m.hold r ∧ m.hold r < (k : Int)
      · rw [if_pos c, if_pos (by omega)]
      · rw [if_neg c, if_neg (by omega)]

theorem wnt_all {S : Sy} {m : Mc} {u : Wt} (hs : SyOk S) (ho : Ok S m) (hk : LkInv S m) (h : WI S m u) {r : Nat} (hr : r < 8) : wnt u (r : Int) S.n = m.hold r := by
  rw [wnt_le hs ho hk h hr S.n (Nat.le_refl _)]
  rcases hk.own r hr with g | ⟨t, ht, g⟩
  · rw [if_neg (by omega), g]
  · rw [if_pos (by omega)]

end Go.Proofs.YtdabcflpcklfiaaGreat

/- Holds of a kernel. -/
namespace Go.Proofs.YtdabcflpcklfiaaGreat
open Go.RowKit Cad Go.MuLone

set_option maxHeartbeats 1000000 in
theorem mholds_any (S : Sy) (m : Mc) (Y : Lay) (w : World) (h : MAt w S m Y) {r : Nat} (hr : r < 8) :
    Calls Tryz.prog 59 #[.pointer (some ⟨Y.mb, 0, none⟩), .int .i64 r] w fun e w' => e = .returned (.tuple #[.int .i64 (m.hold r), .int .i64 0]) ∧ Below w.heap.size w w' := by
  have c0 := h.hc hr
  have hml := h.mrow.lt
  clear h
  go_enter Tryz.func59, Tryz.ntmps59
  go_wp2
  go_ret2
  exact ⟨rfl, Below.refl _ _⟩

set_option maxHeartbeats 1000000 in
theorem kholds_any (kb : Nat) (S : Sy) (m : Mc) (Y : Lay) (w : World) (h : KAt w kb S m Y) {r : Nat} (hr : r < 8) :
    Calls Tryz.prog 34 #[.pointer (some ⟨kb, 0, none⟩), .int .i64 r] w fun e w' => e = .returned (.tuple #[.int .i64 (m.hold r), .int .i64 0]) ∧ KMoved kb S m m Y Y w w' := by
  have c0 : w.cell? ⟨kb, 0, none⟩ = some (.int .i32 0) := by rw [h.krow.cell (by omega)]; rfl
  have c2 : w.cell? ⟨kb, 2, none⟩ = some (.pointer (some ⟨Y.mb, 0, none⟩)) := by rw [h.krow.cell (by omega)]; rfl
  have z0 := h.krow.frozen 0
  have hkl := h.krow.lt
  have HK : Hid (KAt w kb S m Y) := h
  clear h
  go_enter_defers Tryz.func34, Tryz.ntmps34
  go_wp2_with (go_at_call 52; refine (lock_free Tryz.muLib ⟨kb, 0, none⟩ _ c0 z0).mono ?_; rintro e w' ⟨rfl, rfl⟩)
  refine (mholds_any S m Y _ (HK.out.locked _) hr).mono ?_
  rintro e w2 ⟨rfl, hb2⟩
  obtain ⟨q0, qz, hkm⟩ := unlocked HK.out (Moved.refl (HK.out.locked _) HK.out.sep hb2) HK.out.ok
  have HKM : Hid (KMoved kb S m m Y Y w (w2.setCell ⟨kb, 0, none⟩ (.int .i32 0))) := hkm
  clear hkm hb2
  go_wp2
  refine leaves_cons (f := 53) (args := #[.pointer (some ⟨kb, 0, none⟩)]) (by simp) (by simp [go_sem]) ?_
  refine (unlock_deferred Tryz.muLib ⟨kb, 0, none⟩ .returning _ q0 qz).mono ?_
  rintro e u' w'' ⟨rfl, rfl, rfl⟩
  exact ⟨_, results_tmp2 rfl _ _ _, ⟨rfl, HKM.out⟩⟩

theorem kst_holds {own : Nat → Prop} {w : World} {kb : Nat} {S : Sy} {m : Mc} (hown : ∀ q, own q → q < w.heap.size) (h : KSt own w kb S m) {r : Nat} (hr : r < 8) :
    Calls Tryz.prog 34 #[.pointer (some ⟨kb, 0, none⟩), .int .i64 r] w fun e w' => e = .returned (.tuple #[.int .i64 (m.hold r), .int .i64 0]) ∧ KSt own w' kb S m ∧ Fr (fun q => ¬ own q) w w' := by
  obtain ⟨Y, hk, ho⟩ := h
  refine (kholds_any kb S m Y w hk hr).mono ?_
  rintro e w' ⟨he, hm⟩
  exact ⟨he, KSt.moved hown ho hm⟩

end Go.Proofs.YtdabcflpcklfiaaGreat

/- The law's counted, walked. -/
namespace Go.Proofs.YtdabcflpcklfiaaGreat
open Go.RowKit Cad

theorem field_now (x y : Int) (w : World) : (Instr.field 88 (.agg #[.int .i64 x, .int .i64 y]) 0).run Tryz.prog w = .ok (.int .i64 x) w := by kernel_rfl
theorem field_idle (x y : Int) (w : World) : (Instr.field 88 (.agg #[.int .i64 x, .int .i64 y]) 1).run Tryz.prog w = .ok (.int .i64 y) w := by kernel_rfl

theorem sumRec_range : ∀ (l : List Rc), (∀ r ∈ l, 0 ≤ r.left ∧ r.left ≤ 1600) → 0 ≤ sumRec l ∧ sumRec l ≤ 1600 * (l.length : Int)
  | [], _ => ⟨Int.le_refl _, Int.le_refl _⟩
  | r :: l, h => by
    have ih := sumRec_range l (fun x hx => h x (List.mem_cons_of_mem _ hx))
    have h0 := h r (by simp)
    show 0 ≤ r.left + sumRec l ∧ r.left + sumRec l ≤ 1600 * ((l.length + 1 : Nat) : Int)
    omega

theorem cntOpen_range : ∀ (l : List Rc), 0 ≤ cntOpen l ∧ cntOpen l ≤ (l.length : Int)
  | [] => ⟨Int.le_refl _, Int.le_refl _⟩
  | r :: l => by
    have ih := cntOpen_range l
    show 0 ≤ (if r.done < 0 then 1 else 0) + cntOpen l ∧ (if r.done < 0 then 1 else 0) + cntOpen l ≤ ((l.length + 1 : Nat) : Int)
    split <;> omega

theorem lenTo_range {S : Sy} {m : Mc} (ho : Ok S m) : ∀ k, k ≤ S.n → 0 ≤ lenTo m k ∧ lenTo m k ≤ 8 * (k : Int)
  | 0, _ => ⟨Int.le_refl _, Int.le_refl _⟩
  | k + 1, hk => by
    have ih := lenTo_range ho k (by omega)
    have := ho.few k (by omega)
    show 0 ≤ lenTo m k + _ ∧ lenTo m k + _ ≤ 8 * ((k + 1 : Nat) : Int)
    omega

theorem recs_left {S : Sy} {m : Mc} (ho : Ok S m) (h : KI S m) {r : Rc} (hr : r ∈ allRecs S m) : 0 ≤ r.left ∧ r.left ≤ 1600 := by
  rcases mem_recs.1 hr with g | ⟨t, ht, j, hj, rfl⟩
  · have := (h.kept r g).2.2.1; omega
  · exact (ho.job t ht j hj).1.left_range (ho.len t ht).2

theorem recs_len {S : Sy} {m : Mc} (ho : Ok S m) {l : List Rc} (hp : l.Perm (allRecs S m)) : l.length ≤ 104 := by
  rw [hp.length_eq]
  have h1 := ho.keptn
  have h2 := allKeys_len ho
  have h3 : ((List.range S.n).flatMap fun t => (m.q t).map (openRc t)).length = (allKeys S m).length := by rw [← recs_keys, List.length_map]
  unfold allRecs
  rw [List.length_append, h3]
  omega

/-- The watch, the kernel, and what lay below: as they stood. -/
structure LS (w0 : World) (n kb : Nat) (tv pv : Value) (u : Wt) (dn : Nat → Nat) (Y : WL) (S : Sy) (m : Mc) (w : World) : Prop where
  a : WAt w w0.heap.size n kb tv pv u dn Y
  k : KSt (fun q => q < w0.heap.size ∨ footW n u dn Y q) w kb S m
  b : Below w0.heap.size w0 w

theorem LS.below {w0 : World} {n kb : Nat} {tv pv : Value} {u : Wt} {dn : Nat → Nat} {Y : WL} {S : Sy} {m : Mc} {w w' : World} (h : LS w0 n kb tv pv u dn Y S m w) (hb : Below w.heap.size w w') : LS w0 n kb tv pv u dn Y S m w' :=
  ⟨h.a.below hb, h.k.below hb, h.b.trans (hb.mono h.b.size)⟩

theorem LS.fr {w0 : World} {n kb : Nat} {tv pv : Value} {u : Wt} {dn : Nat → Nat} {Y : WL} {S : Sy} {m : Mc} {w w' : World} (h : LS w0 n kb tv pv u dn Y S m w) (hk : KSt (fun q => q < w0.heap.size ∨ footW n u dn Y q) w' kb S m) (hf : Fr (fun q => ¬ (q < w0.heap.size ∨ footW n u dn Y q)) w w') : LS w0 n kb tv pv u dn Y S m w' := by
  obtain ⟨h1, h2⟩ := h.a.kernel h.b hf
  exact ⟨h1, hk, h2⟩

theorem LS.own {w0 : World} {n kb : Nat} {tv pv : Value} {u : Wt} {dn : Nat → Nat} {Y : WL} {S : Sy} {m : Mc} {w : World} (h : LS w0 n kb tv pv u dn Y S m w) : ∀ q, (q < w0.heap.size ∨ footW n u dn Y q) → q < w.heap.size := by
  rintro q (g | g)
  · have := h.b.size; omega
  · exact (h.a.foot_lt g).2

set_option maxRecDepth 100000 in
set_option maxHeartbeats 8000000 in
theorem counted_any {n kb wb : Nat} {tv pv : Value} {T : TD} {Z : Nat → Int} {m : Mc} {w0 w : World} (hSC : SortC) (hG : Good T n) (hP : PrioB Z n)
    (h : WSt w0 w n kb wb tv pv (sysOf T Z n) m) (hKI : KI (sysOf T Z n) m) (hnow : m.now < 1000000000000000000) :
    Calls Tryz.prog 12 #[.pointer (some ⟨wb, 0, none⟩)] w fun e w' => e = .returned (.bool true) ∧ WSt w0 w' n kb wb tv pv (sysOf T Z n) m := by
  obtain ⟨u, dn, Y, hA, hS, rfl, hK, hI, hL, hB, hC⟩ := h
  have hn8 := hG.eight
  have ho := hK.ok
  have hso := syok_of hG hP
  have HLS : Hid (LS w0 n kb tv pv u dn Y (sysOf T Z n) m w) := ⟨hA, hK, hB⟩
  have HFIN : Hid (∀ w', LS w0 n kb tv pv u dn Y (sysOf T Z n) m w' → WSt w0 w' n kb Y.wb tv pv (sysOf T Z n) m) := fun w' h' => ⟨u, dn, Y, h'.a, hS, rfl, h'.k, hI, hL, h'.b, hC⟩
  have HO : Hid (Ok (sysOf T Z n) m) := ho
  have HKI : Hid (KI (sysOf T Z n) m) := hKI
  have HI : Hid (WI (sysOf T Z n) m u) := hI
  have HL8 : Hid (∀ t, t < n → (u.runs t).length ≤ 8) := hI.eight ho
  have HLQ : Hid (∀ t, t < n → (u.runs t).length = (m.q t).length) := hI.len
  have HH16 : Hid (∀ t, t < n → ∀ x ∈ u.runs t, x.held.length ≤ 16) := hI.held16 ho
  have HWNT : Hid (∀ r : Nat, r < 8 → wnt u (r : Int) n = m.hold r) := fun r hr => wnt_all hso ho hL hI hr
  have hgv := hC.given
  have has := hC.asked
  have hlf := leftTo_range ho n (Nat.le_refl _)
  have hlf' : leftTo m (sysOf T Z n).n = leftTo m n := rfl
  rw [hlf'] at has
  have hid := ho.idle
  have hn0 := ho.now0
  have ei := hI.idle
  have en := hI.now
  generalize hgve : u.given = gv at *
  generalize hase : u.asked = av at *
  have HGV : Hid (u.given = gv) := hgve
  have HAV : Hid (u.asked = av) := hase
  have HNW : Hid (u.now = m.now) := en
  have HID : Hid (u.idle = m.idle) := ei
  rw [ei, en] at hgv
  have bg : (m.now == m.idle + gv) = true := by rw [beq_iff_eq]; omega
  have HBL : Hid (leftTo m n = av - gv) := by unfold Hid; omega
  have hgr : 0 ≤ gv ∧ gv < 1000000000000000000 := by omega
  have hvr : 0 ≤ av ∧ av < 1000000000001000000 := by omega
  clear hA hS hK hI hL hB hC ho hso hKI hG hP hgve hase ei en hgv has
  obtain ⟨_, _, _, _, k4, k5, k6, _⟩ := HLS.out.a.wc
  have k0 := HLS.out.a.wc.1
  have hwl := HLS.out.a.wrow.lt
  go_enter Tryz.func12, Tryz.ntmps12
  go_wp2_with fail
  refine (kst_look HLS.out.own HLS.out.k).mono ?_
  rintro e w1 ⟨rfl, hk1, hf1⟩
  have HLS1 : Hid (LS w0 n kb tv pv u dn Y (sysOf T Z n) m w1) := HLS.out.fr hk1 hf1
  clear k0 k4 k5 k6 hwl hk1 hf1
  obtain ⟨k0, _, _, _, k4, k5, k6, _⟩ := HLS1.out.a.wc
  rw [HNW.out] at k4
  rw [HID.out] at k5
  rw [HGV.out] at k6
  have hwl := HLS1.out.a.wrow.lt
  have hfn := field_now
  have hfi := field_idle
  clear HLS
  go_wp2_with fail
  go_quiet (fail)
  go_wp2_with fail
  refine (kst_jobs hSC (HLS1.out.below (below_drewM (below_alloc1 _ _) _)).own (HLS1.out.below (below_drewM (below_alloc1 _ _) _)).k).mono ?_
  rintro e w2 ⟨g, l, rfl, hg, hrj, hperm, hpw, hk2, hf2⟩
  have HLS2 : Hid (LS w0 n kb tv pv u dn Y (sysOf T Z n) m w2) := (HLS1.out.below (below_drewM (below_alloc1 _ _) _)).fr (hk2.more (fun q h => .inl (.inl h))) hf2
  have HRJ : Hid (w2.rowIs g 93 (l.length * 5) (jobF l)) := hrj
  have HREC : Hid (∀ r ∈ l, 0 ≤ r.arr ∧ r.arr ≤ r.rel ∧ ((0 ≤ r.done ∧ r.left = 0 ∧ r.rel < r.done) ∨ r.done = -1)) := fun r hr => HKI.out.recs (hperm.mem_iff.1 hr)
  have HLF : Hid (∀ r ∈ l, 0 ≤ r.left ∧ r.left ≤ 1600) := fun r hr => recs_left HO.out HKI.out (hperm.mem_iff.1 hr)
  have HNX : Hid (∀ (i : Nat) (r r' : Rc), l[i]? = some r → l[i + 1]? = some r' → r.arr ≤ r'.arr) := by
    intro i r r' h1 h2
    have hle : r.ord ≤ r'.ord := by
      have e1 := List.getElem?_eq_some_iff.1 h1
      have e2 := List.getElem?_eq_some_iff.1 h2
      have := List.pairwise_iff_getElem.1 hpw i (i + 1) e1.1 e2.1 (by omega)
      rw [e1.2, e2.2] at this
      exact this
    exact HKI.out.mono r (hperm.mem_iff.1 (List.mem_of_getElem? h1)) r' (hperm.mem_iff.1 (List.mem_of_getElem? h2)) hle
  have hll := recs_len HO.out hperm
  have HSUM : Hid (sumRec l = leftTo m n ∧ cntOpen l = lenTo m n) := HKI.out.sums hperm
  clear hrj hperm hpw hk2 hf2 HLS1 k0 k4 k5 k6 hwl hfn hfi bg
  go_wp2_with fail
  go_loopw [5, 6, 7, 8] (fun lv ov sv iv wr => ∃ (i : Nat) (la : Int), i ≤ l.length ∧ lv = .int .i64 (sumRec (l.take i)) ∧ ov = .int .i64 (cntOpen (l.take i)) ∧ sv = .int .i64 la ∧ iv = .int .i64 i ∧ (∀ r, l[i]? = some r → la ≤ r.arr) ∧ Below w2.heap.size w2 wr) (fun _ _ _ iv _ => l.length - (intOf iv).toNat)
  case atStart => exact ⟨0, 0, Nat.zero_le _, rfl, rfl, rfl, rfl, fun r hr => (HREC.out r (List.mem_of_getElem? hr)).1, Below.refl _ _⟩
  case round =>
    obtain ⟨i, la, hi, rfl, rfl, rfl, rfl, hla, hbel⟩ := hrel
    have HB : Hid (Below w2.heap.size w2 wr) := hbel
    have hsr := sumRec_range (l.take i) (fun r hr => HLF.out r (List.mem_of_mem_take hr))
    have hcr := cntOpen_range (l.take i)
    have htl : (l.take i).length ≤ 104 := by rw [List.length_take]; omega
    by_cases hil : i < l.length
    · obtain ⟨r, hr⟩ : ∃ r, l[i]? = some r := ⟨_, List.getElem?_eq_getElem hil⟩
      have hrc := HREC.out r (List.mem_of_getElem? hr)
      have hlf0 := HLF.out r (List.mem_of_getElem? hr)
      have hla' := hla r hr
      have hrjr := HRJ.out.of_block (hbel.block _ HRJ.out.lt)
      have cc : ∀ c v, c < 5 → (recC r)[c]? = some v → wr.cell? ⟨g, i * 5 + c, none⟩ = some v := fun c v hc hv => by
        rw [hrjr.cell (by omega)]
        unfold jobF
        rw [show (i * 5 + c) / 5 = i from by omega, show (i * 5 + c) % 5 = c from by omega, List.getD_eq_getElem?_getD, keptC_at hr c (by omega), hv]
        rfl
      have y1 : wr.cell? ⟨g, i * 5 + 1, none⟩ = some (.int .i64 r.arr) := cc 1 _ (by omega) rfl
      have y2 : wr.cell? ⟨g, i * 5 + 2, none⟩ = some (.int .i64 r.rel) := cc 2 _ (by omega) rfl
      have y3 : wr.cell? ⟨g, i * 5 + 3, none⟩ = some (.int .i64 r.done) := cc 3 _ (by omega) rfl
      have y4 : wr.cell? ⟨g, i * 5 + 4, none⟩ = some (.int .i64 r.left) := cc 4 _ (by omega) rfl
      have hgl := hrjr.lt
      have HST : Hid (sumRec (l.take (i + 1)) = sumRec (l.take i) + r.left) := sumRec_take l hr
      have HCT : Hid (cntOpen (l.take (i + 1)) = cntOpen (l.take i) + (if r.done < 0 then 1 else 0)) := cntOpen_take l hr
      have HN1 : Hid (∀ r', l[i + 1]? = some r' → r.arr ≤ r'.arr) := fun r' h' => HNX.out i r r' hr h'
      have q0 : decide (r.arr < la) = false := decide_eq_false (by omega)
      have q1 : decide (r.rel < r.arr) = false := decide_eq_false (by omega)
      obtain ⟨ha0, har, hdn⟩ := hrc
      clear cc hrjr hbel hr hla
      generalize sumRec (l.take i) = sm at *
      generalize cntOpen (l.take i) = ct at *
      generalize (l.take i).length = tl at *
      generalize r.arr = ra at *
      generalize r.rel = rr at *
      generalize r.left = rf at *
      generalize r.done = rd at *
      rcases hdn with ⟨hd0, hd1, hd2⟩ | hd0
      · subst hd1
        have q2 : decide (0 ≤ rd) = true := decide_eq_true hd0
        have q4 : decide (rd ≤ rr) = false := decide_eq_false (by omega)
        have q5 : decide (rd < 0) = false := decide_eq_false (by omega)
        have HC2 : Hid (cntOpen (l.take (i + 1)) = ct) := by
          have := HCT.out
          rw [if_neg (by omega)] at this
          unfold Hid; omega
        go_wp2_with fail
        go_quiet (fail)
        go_wp2
        go_roundw
        case rel => exact ⟨i + 1, ra, by omega, by rw [HST.out, Int.add_zero], by rw [HC2.out], rfl, by go_num, HN1.out, below_drewM HB.out _⟩
        case measure => simp [intOf]; omega
      · subst hd0
        have HC2 : Hid (cntOpen (l.take (i + 1)) = ct + 1) := by
          have := HCT.out
          rw [if_pos (by decide)] at this
          exact this
        go_wp2_with fail
        go_quiet (fail)
        go_wp2
        go_roundw
        case rel => exact ⟨i + 1, ra, by omega, by rw [HST.out], by rw [HC2.out], rfl, by go_num, HN1.out, below_drewM HB.out _⟩
        case measure => simp [intOf]; omega
    · obtain rfl : i = l.length := by omega
      have e1 : l.take l.length = l := List.take_length
      have hlr := lenTo_range HO.out n (Nat.le_refl _)
      rw [e1, HSUM.out.1, HSUM.out.2]
      obtain ⟨_, _, _, k3, _⟩ := (HLS2.out.below hbel).a.wc
      have hwl := (HLS2.out.below hbel).a.wrow.lt
      clear hbel hla hsr hcr htl HREC HLF HNX HSUM HRJ
      go_wp2_with fail
      clear k3 hwl
      go_loopw [6, 9] (fun ov tw wr => ∃ k : Nat, k ≤ n ∧ ov = .int .i64 (lenTo m n - lenTo m k) ∧ tw = .int .i64 k ∧ Below w2.heap.size w2 wr) (fun _ tw _ => n - (intOf tw).toNat)
      case atStart => exact ⟨0, Nat.zero_le _, by show _ = Value.int .i64 (lenTo m n - 0); rw [Int.sub_zero], rfl, HB.out⟩
      case round =>
        obtain ⟨k, hk, rfl, rfl, hbel⟩ := hrel
        clear HB
        have HB : Hid (Below w2.heap.size w2 wr) := hbel
        have hLr := HLS2.out.below hbel
        obtain ⟨_, _, _, k3, _, _, k6, k7⟩ := hLr.a.wc
        rw [HGV.out] at k6
        rw [HAV.out] at k7
        have hwl := hLr.a.wrow.lt
        have hrl := hLr.a.rrow.lt
        have hlk := lenTo_range HO.out k hk
        by_cases hkn : k < n
        · obtain ⟨ao, cp, hv⟩ := hLr.a.empty hkn
          have rt : wr.cell? ⟨Y.rb, k, none⟩ = some (Y.sv k) := hLr.a.rrow.cell hkn
          rw [hv] at rt
          have hl8 := HL8.out k hkn
          have HLT : Hid (lenTo m (k + 1) = lenTo m k + ((u.runs k).length : Int)) := by
            unfold Hid
            rw [HLQ.out k hkn]
            rfl
          clear hv hLr hbel k6 k7
          generalize (u.runs k).length = rl at *
          generalize lenTo m k = lk at *
          generalize lenTo m n = ln at *
          go_wp2
          go_roundw
          case rel => exact ⟨k + 1, by omega, by rw [HLT.out]; go_num, by go_num, HB.out⟩
          case measure => simp [intOf]; omega
        · obtain rfl : n = k := by omega
          have e0 : lenTo m n - lenTo m n = 0 := by omega
          rw [e0, HBL.out]
          clear hLr hbel
          go_wp2_with fail
          go_quiet (fail)
          go_wp2_with fail
          clear k3 k6 k7 hwl hrl
          go_loopw [10] (fun rv wr => ∃ r : Nat, r ≤ 8 ∧ rv = .int .i64 r ∧ LS w0 n kb tv pv u dn Y (sysOf T Z n) m wr) (fun rv _ => 8 - (intOf rv).toNat)
          case atStart => exact ⟨0, by omega, rfl, (HLS2.out.below HB.out).below (below_drewM (Below.refl _ _) _)⟩
          case round =>
            clear HB
            obtain ⟨r, hr, rfl, hLr⟩ := hrel
            have HL3 : Hid (LS w0 n kb tv pv u dn Y (sysOf T Z n) m wr) := hLr
            clear hLr
            by_cases hr8 : r < 8
            · have hw := HWNT.out r hr8
              have br : decide ((r : Int) < 8) = true := decide_eq_true (by omega)
              obtain ⟨k0, _, _, k3, _⟩ := HL3.out.a.wc
              have hwl := HL3.out.a.wrow.lt
              go_wp2_with fail
              clear k0 k3 hwl br
              go_loopw [11, 12] (fun wv tw wr => ∃ t : Nat, t ≤ n ∧ wv = .int .i64 (wnt u (r : Int) t) ∧ tw = .int .i64 t ∧ LS w0 n kb tv pv u dn Y (sysOf T Z n) m wr) (fun _ tw _ => n - (intOf tw).toNat)
              case atStart => exact ⟨0, Nat.zero_le _, rfl, rfl, HL3.out⟩
              case round =>
                clear HL3
                obtain ⟨t, ht, rfl, rfl, hLr⟩ := hrel
                have HL4 : Hid (LS w0 n kb tv pv u dn Y (sysOf T Z n) m wr) := hLr
                obtain ⟨k0, _, _, k3, _⟩ := hLr.a.wc
                have hwl := hLr.a.wrow.lt
                have hrl := hLr.a.rrow.lt
                clear hLr
                by_cases htn : t < n
                · have HWS : Hid (wnt u (r : Int) (t + 1) = if ∃ x ∈ u.runs t, (r : Int) ∈ x.held then (t : Int) else wnt u (r : Int) t) := rfl
                  generalize wnt u (r : Int) t = wt at *
                  clear k0
                  go_wp2_with fail
                  clear k3
                  go_loopw [11, 13] (fun wv iv wr => ∃ (i : Nat) (bq : Bool), i ≤ (u.runs t).length ∧ (bq = true ↔ ∃ x ∈ (u.runs t).take i, (r : Int) ∈ x.held) ∧ wv = .int .i64 (if bq = true then (t : Int) else wt) ∧ iv = .int .i64 i ∧ LS w0 n kb tv pv u dn Y (sysOf T Z n) m wr) (fun _ iv _ => (u.runs t).length - (intOf iv).toNat)
                  case atStart => exact ⟨0, false, Nat.zero_le _, by simp, rfl, rfl, HL4.out⟩
                  case round =>
                    clear HL4 hwl hrl
                    obtain ⟨i, bq, hi, hbq, rfl, rfl, hLr⟩ := hrel
                    have HL5 : Hid (LS w0 n kb tv pv u dn Y (sysOf T Z n) m wr) := hLr
                    obtain ⟨_, _, _, k3, _⟩ := hLr.a.wc
                    have hwl := hLr.a.wrow.lt
                    have hrl := hLr.a.rrow.lt
                    have rt : wr.cell? ⟨Y.rb, t, none⟩ = some (Y.sv t) := hLr.a.rrow.cell htn
                    have hl8 := HL8.out t htn
                    have HBQ : Hid (bq = true ↔ ∃ x ∈ (u.runs t).take i, (r : Int) ∈ x.held) := hbq
                    generalize hwv : (if bq = true then (t : Int) else wt) = wv at *
                    have HWV : Hid ((if bq = true then (t : Int) else wt) = wv) := hwv
                    clear hbq hwv
                    by_cases hil : i < (u.runs t).length
                    · obtain ⟨x, hx⟩ : ∃ x, (u.runs t)[i]? = some x := ⟨_, List.getElem?_eq_getElem hil⟩
                      have HX : Hid ((u.runs t)[i]? = some x) := hx
                      obtain ⟨g2, o2, c2, hv, hg2, _⟩ := hLr.a.ptr htn (by omega)
                      rw [hv] at rt
                      have hxh := HH16.out t htn x (List.mem_of_getElem? hx)
                      have HTK : Hid ((u.runs t).take (i + 1) = (u.runs t).take i ++ [x]) := by
                        unfold Hid
                        rw [List.take_add_one, hx]; rfl
                      generalize hlen : (u.runs t).length = len at *
                      clear hLr hx
                      go_wp2_with fail
                      clear k3 rt hwl hrl hg2
                      go_loopw [11, 14] (fun wv' kv wr => ∃ (q : Nat) (bk : Bool), q ≤ x.held.length ∧ (bk = true ↔ (r : Int) ∈ x.held.take q) ∧ wv' = .int .i64 (if bk = true then (t : Int) else wv) ∧ kv = .int .i64 q ∧ LS w0 n kb tv pv u dn Y (sysOf T Z n) m wr) (fun _ kv _ => x.held.length - (intOf kv).toNat)
                      case atStart => exact ⟨0, false, Nat.zero_le _, by simp, rfl, rfl, HL5.out⟩
                      case round =>
                        clear HL5
                        obtain ⟨q, bk, hq, hbk, rfl, rfl, hLr⟩ := hrel
                        have HL6 : Hid (LS w0 n kb tv pv u dn Y (sysOf T Z n) m wr) := hLr
                        obtain ⟨_, _, _, k3, _⟩ := hLr.a.wc
                        have hwl := hLr.a.wrow.lt
                        have hrl := hLr.a.rrow.lt
                        have rt : wr.cell? ⟨Y.rb, t, none⟩ = some (Y.sv t) := hLr.a.rrow.cell htn
                        obtain ⟨g3, o3, c3, hv3, hg3, hp3⟩ := hLr.a.ptr htn (by rw [hlen]; omega)
                        rw [hv] at hv3
                        rw [hlen] at hp3 hv3
                        cases hv3
                        have p0 := hp3 i hil
                        rw [hv] at rt
                        have hj := hLr.a.jrow t htn i x HX.out
                        have j4 : wr.cell? ⟨Y.jb t (dn t + i), 4, none⟩ = some (Y.V 1 t (dn t + i)) := hj.cell (by omega)
                        have hjl := hj.lt
                        have hsl := hLr.a.irow t htn i x HX.out 1 (by omega)
                        have hls : lst x 1 = x.held := rfl
                        rw [hls] at hsl
                        have HBK : Hid (bk = true ↔ (r : Int) ∈ x.held.take q) := hbk
                        clear hLr hj hp3 hbk
                        by_cases hql : q < x.held.length
                        · obtain ⟨g4, o4, c4, hv4, hg4, y0, _⟩ := hsl.at hql
                          rw [hv4] at j4
                          have HTQ : Hid (x.held.take (q + 1) = x.held.take q ++ [x.held.getD q 0]) := by
                            unfold Hid
                            rw [List.take_add_one, List.getD_eq_getElem?_getD, List.getElem?_eq_getElem hql]; rfl
                          clear hsl hv4
                          generalize x.held.getD q 0 = hq0 at *
                          generalize hxl : x.held.length = xl at *
                          generalize hwk : (if bk = true then (t : Int) else wv) = wk at *
                          have HWK : Hid ((if bk = true then (t : Int) else wv) = wk) := hwk
                          clear hwk
                          by_cases heq : hq0 = (r : Int)
                          · have bh : (hq0 == (r : Int)) = true := by rw [beq_iff_eq]; exact heq
                            have HRE : Hid (true = true ↔ (r : Int) ∈ x.held.take (q + 1)) := by
                              unfold Hid
                              rw [HTQ.out]
                              simp [heq]
                            clear heq
                            go_wp2
                            go_roundw
                            case rel => exact ⟨q + 1, true, by omega, HRE.out, rfl, by go_num, HL6.out⟩
                            case measure => simp [intOf]; omega
                          · have bh : (hq0 == (r : Int)) = false := by rw [beq_eq_false_iff_ne]; exact heq
                            have HRE : Hid (bk = true ↔ (r : Int) ∈ x.held.take (q + 1)) := by
                              unfold Hid
                              rw [HTQ.out, HBK.out]
                              simp
                              intro e
                              exact absurd e.symm heq
                            clear heq
                            go_wp2
                            go_roundw
                            case rel => exact ⟨q + 1, bk, by omega, HRE.out, by rw [HWK.out], by go_num, HL6.out⟩
                            case measure => simp [intOf]; omega
                        · obtain rfl : q = x.held.length := by omega
                          obtain ⟨ao4, cp4, hv4⟩ := hsl.len
                          rw [hv4] at j4
                          have HRE : Hid ((bq || bk) = true ↔ ∃ y ∈ (u.runs t).take (i + 1), (r : Int) ∈ y.held) := by
                            unfold Hid
                            have h1 := HBQ.out
                            have h2 := HBK.out
                            rw [List.take_length] at h2
                            rw [HTK.out, Bool.or_eq_true, h1, h2]
                            simp only [List.mem_append, List.mem_singleton]
                            constructor
                            · rintro (⟨y, hy, hm⟩ | hm)
                              · exact ⟨y, .inl hy, hm⟩
                              · exact ⟨x, .inr rfl, hm⟩
                            · rintro ⟨y, hy | rfl, hm⟩
                              · exact .inl ⟨y, hy, hm⟩
                              · exact .inr hm
                          have HWE : Hid ((if bk = true then (t : Int) else wv) = (if (bq || bk) = true then (t : Int) else wt)) := by
                            unfold Hid
                            rw [← HWV.out]
                            cases bq <;> cases bk <;> rfl
                          clear hsl hv4
                          generalize hxl : x.held.length = xl at *
                          generalize hwk : (if bk = true then (t : Int) else wv) = wk at *
                          clear hwk
                          go_wp2
                          go_roundw
                          case rel => exact ⟨i + 1, (bq || bk), by omega, HRE.out, by rw [← HWE.out], by go_num, HL6.out⟩
                          case measure => simp [intOf]; omega
                    · obtain rfl : i = (u.runs t).length := by omega
                      obtain ⟨ao2, cp2, hv⟩ := hLr.a.empty htn
                      rw [hv] at rt
                      have HWE : Hid (wv = wnt u (r : Int) (t + 1)) := by
                        unfold Hid
                        have h1 := HBQ.out
                        rw [List.take_length] at h1
                        rw [HWS.out, ← HWV.out]
                        by_cases c : ∃ x ∈ u.runs t, (r : Int) ∈ x.held
                        · rw [if_pos c, if_pos (h1.2 c)]
                        · rw [if_neg c, if_neg (fun e => c (h1.1 e))]
                      clear hLr hv
                      generalize hlen : (u.runs t).length = len at *
                      go_wp2
                      go_roundw
                      case rel => exact ⟨t + 1, by omega, by rw [HWE.out], by go_num, HL5.out⟩
                      case measure => simp [intOf]; omega
                · obtain rfl : n = t := by omega
                  rw [hw]
                  have bh : (m.hold r == m.hold r) = true := by simp
                  go_wp2_with fail
                  refine (kst_holds HL4.out.own HL4.out.k hr8).mono ?_
                  rintro e w5 ⟨rfl, hk5, hf5⟩
                  have HL5 : Hid (LS w0 n kb tv pv u dn Y (sysOf T Z n) m w5) := HL4.out.fr hk5 hf5
                  clear hk5 hf5 HL4
                  generalize m.hold r = hd at *
                  go_wp2
                  go_roundw
                  case rel => exact ⟨r + 1, by omega, by go_num, HL5.out⟩
                  case measure => simp [intOf]; omega
            · obtain rfl : r = 8 := by omega
              go_wp2
              go_ret
              exact ⟨rfl, HFIN.out _ HL3.out⟩

end Go.Proofs.YtdabcflpcklfiaaGreat
