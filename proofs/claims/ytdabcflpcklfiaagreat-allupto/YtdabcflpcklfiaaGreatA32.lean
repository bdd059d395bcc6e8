import Derived.Test.YtdabcflpcklfiaaGreatA28
import Derived.Test.YtdabcflpcklfiaaGreatA31
/- Plain mathematics of Runs: the document's kernel beside the program's. -/
namespace Go.Proofs.YtdabcflpcklfiaaGreat.Cad

/-- A job of the document's kernel. -/
structure RJ where
  task : Nat
  arr : Int
  rel : Int
  dem : List Int
  used : Int
  done : Int
  ended : Int

structure RK where
  jobs : List RJ
  now : Int
  idle : Int
  ended : Int

def rstart : RK := ⟨[], 0, 0, 0⟩

/-- A job of the program's beside one of the document's. -/
structure JR (S : Sy) (t : Nat) (j : Jb) (x : RJ) : Prop where
  task : x.task = t
  arr : x.arr = j.arr
  rel : x.rel = j.rel
  done : x.done = -1
  fits : Fits (S.K t) (S.N t) (S.L t) (fun q => x.dem.getD q 0) x.dem.length
  ur : UR (S.K t) (numOf (S.K t) (S.N t) (fun q => x.dem.getD q 0)) (S.L t) j x.used

/-- The last arrival of a task; -1: none. -/
def lastP : List (Nat × Int) → Nat → Int
  | [], _ => -1
  | p :: l, t => if lastP l t < 0 then (if p.1 = t then p.2 else -1) else lastP l t
def lastTo (l : List RJ) (t : Nat) : Int := lastP (l.map fun x => (x.task, x.arr)) t

def opB (t : Nat) (x : RJ) : Bool := decide (x.task = t ∧ x.done < 0)
def cntO (t : Nat) : List RJ → Int
  | [] => 0
  | x :: l => (if opB t x = true then 1 else 0) + cntO t l

structure RR (S : Sy) (m : Mc) (k : RK) : Prop where
  now : k.now = m.now
  idle : k.idle = m.idle
  len : (k.jobs.length : Int) = m.arrd
  jr : ∀ t, t < S.n → ∀ j ∈ m.q t, ∃ (i : Nat) (x : RJ), j.ord = (i : Int) ∧ k.jobs[i]? = some x ∧ JR S t j x
  op : ∀ (i : Nat) (x : RJ), k.jobs[i]? = some x → x.done < 0 → x.task < S.n ∧ ∃ j ∈ m.q x.task, j.ord = (i : Int)
  inc : ∀ t, t < S.n → (m.q t).Pairwise (fun a b => a.ord < b.ord)
  kp : ∀ (e : Nat) (r : Rc), m.kept[e]? = some r → ∃ (i : Nat) (x : RJ), r.ord = (i : Int) ∧ k.jobs[i]? = some x ∧ (x.task : Int) = r.task ∧ x.arr = r.arr ∧ x.rel = r.rel ∧ x.done = r.done ∧ 0 ≤ r.done ∧ r.left = 0 ∧ sumL x.dem = x.used ∧ x.ended = k.ended - m.kept.length + e + 1
  dn : ∀ (i : Nat) (x : RJ), k.jobs[i]? = some x → 0 ≤ x.done → x.ended ≤ k.ended - 40 ∨ ∃ r ∈ m.kept, r.ord = (i : Int)
  kl : 0 ≤ k.ended ∧ ((m.kept.length : Int) = 40 ∧ 40 ≤ k.ended ∨ (m.kept.length : Int) = k.ended ∧ k.ended ≤ 40)
  arr0 : ∀ (i : Nat) (x : RJ), k.jobs[i]? = some x → 0 ≤ x.arr
  last : ∀ t, t < S.n → lastTo k.jobs t = if 0 < m.done t + (m.q t).length then m.last t else -1
  cnt : ∀ t, t < S.n → cntO t k.jobs = (m.q t).length
  en : k.ended ≤ k.now
  dm : ∀ (i : Nat) (x : RJ), k.jobs[i]? = some x → (∀ q, q < x.dem.length → 1 ≤ x.dem.getD q 0 ∧ x.dem.getD q 0 ≤ 100) ∧ x.dem.length ≤ 16 ∧ 0 ≤ x.used ∧ x.used ≤ sumL x.dem

/-- What fits a program is no greater than its steps. -/
theorem fits_range {K N D : Nat → Int} {L d : Nat} (hf : Fits K N L D d) (hN : ∀ p, p < L → K p = 1 → N p ≤ 100) : ∀ q, q < d → 1 ≤ D q ∧ D q ≤ 100 := by
  intro q hq
  have hcm : cmpTo K L = d := hf.2
  have hex : ∀ L', q < cmpTo K L' → L' ≤ L → ∃ p, p < L' ∧ K p = 1 ∧ cmpTo K p = q := by
    intro L'
    induction L' with
    | zero => intro hq0 _; exact absurd hq0 (by show ¬ q < 0; omega)
    | succ L' ih =>
      intro hqL hL
      by_cases c : K L' = 1
      · have e : cmpTo K (L' + 1) = cmpTo K L' + 1 := if_pos c
        by_cases c2 : q < cmpTo K L'
        · obtain ⟨p, p1, p2, p3⟩ := ih c2 (by omega)
          exact ⟨p, by omega, p2, p3⟩
        · exact ⟨L', by omega, c, by omega⟩
      · have e : cmpTo K (L' + 1) = cmpTo K L' := if_neg c
        obtain ⟨p, p1, p2, p3⟩ := ih (by omega) (by omega)
        exact ⟨p, by omega, p2, p3⟩
  obtain ⟨p, p1, p2, p3⟩ := hex L (by omega) (Nat.le_refl _)
  have h1 := hf.1 p p1 p2
  rw [p3] at h1
  have h2 := hN p p1 p2
  exact ⟨h1.2.1, by have := h1.2.2; omega⟩

theorem rr_start (S : Sy) : RR S start rstart where
  now := rfl
  idle := rfl
  len := rfl
  jr t _ j hj := by cases hj
  op i x hx := by simp [rstart] at hx
  inc t _ := List.Pairwise.nil
  kp e r hr := by simp [start] at hr
  dn i x hx := by simp [rstart] at hx
  kl := ⟨Int.le_refl _, .inr ⟨rfl, by decide⟩⟩
  arr0 i x hx := by simp [rstart] at hx
  last t _ := by
    rw [if_neg (by show ¬ 0 < (0 : Nat) + 0; omega)]
    rfl
  cnt t _ := rfl
  en := Int.le_refl _
  dm i x hx := by simp [rstart] at hx

theorem rr_idle {S : Sy} {m : Mc} {k : RK} (h : RR S m k) : RR S { m with now := m.now + 1, idle := m.idle + 1 } { k with now := k.now + 1, idle := k.idle + 1 } :=
  { h with now := by show k.now + 1 = m.now + 1; rw [h.now], idle := by show k.idle + 1 = m.idle + 1; rw [h.idle], en := by have := h.en; show k.ended ≤ k.now + 1; omega }

theorem lastP_snoc : ∀ (l : List (Nat × Int)) (p : Nat × Int) (t : Nat), 0 ≤ p.2 → lastP (l ++ [p]) t = if p.1 = t then p.2 else lastP l t
  | [], p, t, h => by
    show (if (-1 : Int) < 0 then (if p.1 = t then p.2 else -1) else -1) = if p.1 = t then p.2 else -1
    rw [if_pos (by decide)]
  | q :: l, p, t, h => by
    have ih := lastP_snoc l p t h
    show (if lastP (l ++ [p]) t < 0 then _ else lastP (l ++ [p]) t) = if p.1 = t then p.2 else (if lastP l t < 0 then _ else lastP l t)
    rw [ih]
    by_cases e : p.1 = t
    · rw [if_pos e, if_pos e, if_neg (by omega)]
    · rw [if_neg e, if_neg e]

theorem map_set_same {α β : Type} (f : α → β) {l : List α} {i : Nat} {x x' : α} (h : l[i]? = some x) (e : f x' = f x) : (l.set i x').map f = l.map f := by
  apply List.ext_getElem?
  intro q
  rw [List.getElem?_map, List.getElem?_map, List.getElem?_set]
  by_cases g : i = q
  · subst g
    rw [if_pos rfl, if_pos (List.getElem?_eq_some_iff.1 h).1, h]
    exact congrArg some e
  · rw [if_neg g]

theorem cntO_set (t : Nat) : ∀ {l : List RJ} {i : Nat} {x : RJ} (x' : RJ), l[i]? = some x → cntO t (l.set i x') = cntO t l - (if opB t x = true then 1 else 0) + (if opB t x' = true then 1 else 0)
  | [], i, x, x', h => by simp at h
  | y :: l, 0, x, x', h => by
    simp at h
    subst h
    show (if opB t x' = true then 1 else 0) + cntO t l = (if opB t y = true then 1 else 0) + cntO t l - (if opB t y = true then 1 else 0) + (if opB t x' = true then 1 else 0)
    omega
  | y :: l, i + 1, x, x', h => by
    have ih := cntO_set t (l := l) (i := i) x' (by simpa using h)
    show (if opB t y = true then 1 else 0) + cntO t (l.set i x') = (if opB t y = true then 1 else 0) + cntO t l - (if opB t x = true then 1 else 0) + (if opB t x' = true then 1 else 0)
    rw [ih]; omega

theorem cntO_snoc (t : Nat) (x : RJ) : ∀ l : List RJ, cntO t (l ++ [x]) = cntO t l + (if opB t x = true then 1 else 0)
  | [] => by show (if opB t x = true then 1 else 0) + 0 = 0 + (if opB t x = true then 1 else 0); omega
  | y :: l => by
    show (if opB t y = true then 1 else 0) + cntO t (l ++ [x]) = (if opB t y = true then 1 else 0) + cntO t l + (if opB t x = true then 1 else 0)
    rw [cntO_snoc t x l]; omega

theorem set_get {α : Type} {l : List α} {i : Nat} {x x' : α} (h : l[i]? = some x) {q : Nat} {y : α} (hy : (l.set i x')[q]? = some y) : (q = i ∧ y = x') ∨ (q ≠ i ∧ l[q]? = some y) := by
  rw [List.getElem?_set] at hy
  by_cases g : i = q
  · subst g
    rw [if_pos rfl, if_pos (List.getElem?_eq_some_iff.1 h).1] at hy
    cases hy
    exact .inl ⟨rfl, rfl⟩
  · rw [if_neg g] at hy
    exact .inr ⟨fun e => g e.symm, hy⟩

theorem set_other {α : Type} {l : List α} {i q : Nat} (x' : α) (h : q ≠ i) : (l.set i x')[q]? = l[q]? := by
  rw [List.getElem?_set, if_neg (fun e => h e.symm)]

theorem set_here {α : Type} {l : List α} {i : Nat} {x : α} (x' : α) (h : l[i]? = some x) : (l.set i x')[i]? = some x' := by
  rw [List.getElem?_set, if_pos rfl, if_pos (List.getElem?_eq_some_iff.1 h).1]

/-- The document's tick, at the job of index i. -/
def RK.tickAt (k : RK) (i : Nat) (x : RJ) : RK × Bool :=
  if x.used + 1 = sumL x.dem then ({ k with jobs := k.jobs.set i { x with used := x.used + 1, done := k.now + 1, ended := k.ended + 1 }, now := k.now + 1, ended := k.ended + 1 }, true)
  else ({ k with jobs := k.jobs.set i { x with used := x.used + 1 }, now := k.now + 1 }, false)

theorem JR.total {S : Sy} {t : Nat} {j : Jb} {x : RJ} (h : JR S t j x) : demTo (S.K t) (numOf (S.K t) (S.N t) (fun q => x.dem.getD q 0)) (S.L t) = sumL x.dem := by
  have hl : cmpTo (S.K t) (S.L t) = x.dem.length := h.fits.2
  rw [dem_new (l := x.dem) _ (Nat.le_of_eq hl), hl, List.take_length]

theorem runJ_ord (S : Sy) (t : Nat) (h : Nat → Int) (j : Jb) : (runJ S t h j).2.arr = j.arr ∧ (runJ S t h j).2.rel = j.rel ∧ (runJ S t h j).2.ord = j.ord := by
  unfold runJ runK
  simp only []
  split <;> exact ⟨rfl, rfl, rfl⟩

theorem rr_tick {S : Sy} {m : Mc} {k : RK} (ho : Ok S m) (h : RR S m k) {t : Nat} {j : Jb} {r : List Jb} (ht : t < S.n) (hq : m.q t = j :: r) :
    ∃ (i : Nat) (x : RJ), j.ord = (i : Int) ∧ k.jobs[i]? = some x ∧ JR S t j x ∧ RR S (tickAt S m t j r).1 (k.tickAt i x).1 ∧ (tickAt S m t j r).2 = (k.tickAt i x).2 := by
  obtain ⟨i, x, hi, hx, hj⟩ := h.jr t ht j (by rw [hq]; simp)
  refine ⟨i, x, hi, hx, hj, ?_⟩
  have hjo := (ho.job t ht j (by rw [hq]; simp)).1
  obtain ⟨o1, o2, o3⟩ := runJ_ord S t m.hold j
  have hM : ∀ q, q < S.L t → S.K t q = 1 → 1 ≤ numOf (S.K t) (S.N t) (fun q => x.dem.getD q 0) q := by
    intro q hq h1
    have := (hj.fits.1 q hq h1).2.1
    show 1 ≤ if S.K t q = 1 then _ else _
    rw [if_pos h1]
    exact this
  obtain ⟨u1, u2⟩ := hj.ur.tick (t := t) (hh := m.hold) hjo hM
  have hk := runK_ok (t := t) (h := m.hold) hjo
  have htot := hj.total
  have hinc := h.inc t ht
  rw [hq] at hinc
  have hltr : ∀ y ∈ r, j.ord < y.ord := (List.pairwise_cons.1 hinc).1
  have hn0 := ho.now0
  have hdone : x.done = -1 := hj.done
  -- other jobs lie elsewhere
  have other : ∀ a, a < S.n → ∀ y, (a ≠ t ∧ y ∈ m.q a) ∨ (a = t ∧ y ∈ r) → ∃ (i' : Nat) (x'' : RJ), i' ≠ i ∧ y.ord = (i' : Int) ∧ k.jobs[i']? = some x'' ∧ JR S a y x'' := by
    intro a ha y hy
    have hmem : y ∈ m.q a := by
      rcases hy with ⟨_, g⟩ | ⟨e, g⟩
      · exact g
      · rw [e, hq]; exact List.mem_cons_of_mem _ g
    obtain ⟨i', x'', e1, e2, e3⟩ := h.jr a ha y hmem
    refine ⟨i', x'', fun e => ?_, e1, e2, e3⟩
    subst e
    rcases hy with ⟨g, _⟩ | ⟨_, g⟩
    · rw [hx] at e2
      cases e2
      exact g (e3.task.symm.trans hj.task)
    · have := hltr y g
      omega
  have keptOther : ∀ (e : Nat) (rc : Rc), m.kept[e]? = some rc → ∃ (i' : Nat) (y : RJ), i' ≠ i ∧ rc.ord = (i' : Int) ∧ k.jobs[i']? = some y ∧ (y.task : Int) = rc.task ∧ y.arr = rc.arr ∧ y.rel = rc.rel ∧ y.done = rc.done ∧ 0 ≤ rc.done ∧ rc.left = 0 ∧ sumL y.dem = y.used ∧ y.ended = k.ended - m.kept.length + e + 1 := by
    intro e rc hrc
    obtain ⟨i', y, e1, e2, e3, e4, e5, e6, e7, e8⟩ := h.kp e rc hrc
    refine ⟨i', y, fun g => ?_, e1, e2, e3, e4, e5, e6, e7, e8⟩
    subst g
    rw [hx] at e2
    cases e2
    omega
  have hsnd : ∀ b, (tickAt S m t j r).2 = b → b = (tickAt S m t j r).2 := fun _ e => e.symm
  clear hsnd
  unfold tickAt RK.tickAt
  simp only []
  by_cases hp : (runJ S t m.hold j).2.p < S.L t
  · obtain ⟨v1, v2⟩ := u1 hp
    rw [if_pos hp, if_neg (by omega)]
    refine ⟨?_, rfl⟩
    exact {
      now := by show k.now + 1 = m.now + 1; rw [h.now]
      idle := h.idle
      len := by show ((k.jobs.set i _).length : Int) = m.arrd; rw [List.length_set]; exact h.len
      jr := by
        intro a ha y hy
        have hy' : y ∈ upd m.q t ((runJ S t m.hold j).2 :: r) a := hy
        by_cases e : a = t
        · subst e
          rw [upd_same] at hy'
          rcases List.mem_cons.1 hy' with g | g
          · subst g
            exact ⟨i, _, by rw [o3]; exact hi, set_here _ hx, ⟨hj.task, by rw [o1]; exact hj.arr, by rw [o2]; exact hj.rel, hj.done, hj.fits, v1⟩⟩
          · obtain ⟨i', x'', e0, e1, e2, e3⟩ := other a ha y (.inr ⟨rfl, g⟩)
            exact ⟨i', x'', e1, (set_other _ e0).trans e2, e3⟩
        · rw [upd_other _ _ e] at hy'
          obtain ⟨i', x'', e0, e1, e2, e3⟩ := other a ha y (.inl ⟨e, hy'⟩)
          exact ⟨i', x'', e1, (set_other _ e0).trans e2, e3⟩
      op := by
        intro i' y hy hd
        rcases set_get hx hy with ⟨rfl, rfl⟩ | ⟨g1, g2⟩
        · refine ⟨by show x.task < S.n; rw [hj.task]; exact ht, (runJ S t m.hold j).2, ?_, by rw [o3]; exact hi⟩
          show _ ∈ upd m.q t _ x.task
          rw [hj.task, upd_same]; simp
        · obtain ⟨q1, j0, q2, q3⟩ := h.op i' y g2 hd
          refine ⟨q1, j0, ?_, q3⟩
          show j0 ∈ upd m.q t ((runJ S t m.hold j).2 :: r) y.task
          by_cases e : y.task = t
          · rw [e, upd_same]
            rw [e, hq] at q2
            rcases List.mem_cons.1 q2 with g | g
            · subst g
              exact absurd (by omega) g1
            · exact List.mem_cons_of_mem _ g
          · rw [upd_other _ _ e]; exact q2
      inc := by
        intro a ha
        show (upd m.q t ((runJ S t m.hold j).2 :: r) a).Pairwise _
        by_cases e : a = t
        · subst e
          rw [upd_same]
          exact List.pairwise_cons.2 ⟨fun y hy => by rw [o3]; exact hltr y hy, (List.pairwise_cons.1 hinc).2⟩
        · rw [upd_other _ _ e]; exact h.inc a ha
      kp := by
        intro e rc hrc
        obtain ⟨i', y, e0, e1, e2, e3⟩ := keptOther e rc hrc
        exact ⟨i', y, e1, (set_other _ e0).trans e2, e3⟩
      dn := by
        intro i' y hy hd
        rcases set_get hx hy with ⟨rfl, rfl⟩ | ⟨g1, g2⟩
        · have : 0 ≤ x.done := hd
          omega
        · exact h.dn i' y g2 hd
      kl := h.kl
      arr0 := by
        intro i' y hy
        rcases set_get hx hy with ⟨rfl, rfl⟩ | ⟨g1, g2⟩
        · exact h.arr0 i' x hx
        · exact h.arr0 i' y g2
      last := by
        intro a ha
        show lastTo (k.jobs.set i _) a = if 0 < m.done a + (upd m.q t ((runJ S t m.hold j).2 :: r) a).length then m.last a else -1
        have e1 : lastTo (k.jobs.set i { x with used := x.used + 1 }) a = lastTo k.jobs a := by
          unfold lastTo
          rw [map_set_same _ hx]
          rfl
        rw [e1, h.last a ha]
        by_cases e : a = t
        · subst e
          rw [upd_same, hq]
          rfl
        · rw [upd_other _ _ e]
      cnt := by
        intro a ha
        show cntO a (k.jobs.set i _) = (upd m.q t ((runJ S t m.hold j).2 :: r) a).length
        have e1 : opB a { x with used := x.used + 1 } = opB a x := rfl
        rw [cntO_set a _ hx, e1, h.cnt a ha]
        by_cases e : a = t
        · subst e
          rw [upd_same, hq]
          simp
        · rw [upd_other _ _ e]
          omega
      en := by have := h.en; show k.ended ≤ k.now + 1; omega
      dm := by
        intro i' y hy
        rcases set_get hx hy with ⟨rfl, rfl⟩ | ⟨g1, g2⟩
        · obtain ⟨d1, d2, d3, d4⟩ := h.dm i' x hx
          exact ⟨d1, d2, by show 0 ≤ x.used + 1; omega, by show x.used + 1 ≤ sumL x.dem; omega⟩
        · exact h.dm i' y g2 }
  · have hpe : (runK (S.K t) (S.L t) t m.hold j).2.p = S.L t := by
      have h1 : (runK (S.K t) (S.L t) t m.hold j).2.p ≤ S.L t := hk.1
      have h2 : ¬ (runK (S.K t) (S.L t) t m.hold j).2.p < S.L t := hp
      omega
    have hend := u2 hpe
    have hleft : (runJ S t m.hold j).2.left = 0 := hk.2.2.1 hpe
    rw [if_neg hp, if_pos (by omega)]
    refine ⟨?_, rfl⟩
    have hkl := h.kl
    have hkd : ∀ rc : Rc, keep m.kept rc = (if m.kept.length = 40 then m.kept.tail else m.kept) ++ [rc] := fun rc => rfl
    have hlen' : ∀ rc : Rc, ((keep m.kept rc).length : Int) = if m.kept.length = 40 then 40 else m.kept.length + 1 := by
      intro rc
      rw [hkd, List.length_append, List.length_singleton]
      by_cases c : m.kept.length = 40
      · rw [if_pos c, if_pos c, List.length_tail]; omega
      · rw [if_neg c, if_neg c]
    exact {
      now := by show k.now + 1 = m.now + 1; rw [h.now]
      idle := h.idle
      len := by show ((k.jobs.set i _).length : Int) = m.arrd; rw [List.length_set]; exact h.len
      jr := by
        intro a ha y hy
        have hy' : y ∈ upd m.q t r a := hy
        by_cases e : a = t
        · subst e
          rw [upd_same] at hy'
          obtain ⟨i', x'', e0, e1, e2, e3⟩ := other a ha y (.inr ⟨rfl, hy'⟩)
          exact ⟨i', x'', e1, (set_other _ e0).trans e2, e3⟩
        · rw [upd_other _ _ e] at hy'
          obtain ⟨i', x'', e0, e1, e2, e3⟩ := other a ha y (.inl ⟨e, hy'⟩)
          exact ⟨i', x'', e1, (set_other _ e0).trans e2, e3⟩
      op := by
        intro i' y hy hd
        rcases set_get hx hy with ⟨rfl, rfl⟩ | ⟨g1, g2⟩
        · have : k.now + 1 < 0 := hd
          have := h.now
          omega
        · obtain ⟨q1, j0, q2, q3⟩ := h.op i' y g2 hd
          refine ⟨q1, j0, ?_, q3⟩
          show j0 ∈ upd m.q t r y.task
          by_cases e : y.task = t
          · rw [e, upd_same]
            rw [e, hq] at q2
            rcases List.mem_cons.1 q2 with g | g
            · subst g
              exact absurd (by omega) g1
            · exact g
          · rw [upd_other _ _ e]; exact q2
      inc := by
        intro a ha
        show (upd m.q t r a).Pairwise _
        by_cases e : a = t
        · subst e
          rw [upd_same]
          exact (List.pairwise_cons.1 hinc).2
        · rw [upd_other _ _ e]; exact h.inc a ha
      kp := by
        intro e rc hrc
        have hrc' : (keep m.kept ⟨t, j.arr, j.rel, m.now + 1, (runJ S t m.hold j).2.left, j.ord⟩)[e]? = some rc := hrc
        have hL := hlen' ⟨t, j.arr, j.rel, m.now + 1, (runJ S t m.hold j).2.left, j.ord⟩
        have goal : ∃ (i' : Nat) (y : RJ), rc.ord = (i' : Int) ∧ (k.jobs.set i { x with used := x.used + 1, done := k.now + 1, ended := k.ended + 1 })[i']? = some y ∧ (y.task : Int) = rc.task ∧ y.arr = rc.arr ∧ y.rel = rc.rel ∧ y.done = rc.done ∧ 0 ≤ rc.done ∧ rc.left = 0 ∧ sumL y.dem = y.used ∧ y.ended = (k.ended + 1) - ((keep m.kept ⟨t, j.arr, j.rel, m.now + 1, (runJ S t m.hold j).2.left, j.ord⟩).length : Int) + e + 1 := by
          rw [hL]
          rw [hkd] at hrc'
          by_cases c : m.kept.length = 40
          · rw [if_pos c] at hrc' ⊢
            by_cases he : e < m.kept.tail.length
            · rw [List.getElem?_append_left he, List.getElem?_tail] at hrc'
              obtain ⟨i', y, e0, e1, e2, e3, e4, e5, e6, e7, e8, e9, e10⟩ := keptOther (e + 1) rc hrc'
              exact ⟨i', y, e1, (set_other _ e0).trans e2, e3, e4, e5, e6, e7, e8, e9, by rw [e10, c]; omega⟩
            · rw [List.getElem?_append_right (by omega)] at hrc'
              have hz : e - m.kept.tail.length = 0 := by
                have := (List.getElem?_eq_some_iff.1 hrc').1
                simp at this
                rw [List.length_tail]
                omega
              rw [hz] at hrc'
              simp at hrc'
              rw [List.length_tail] at he hz
              subst hrc'
              exact ⟨i, _, hi, set_here _ hx, by show (x.task : Int) = t; rw [hj.task], hj.arr, hj.rel, by show k.now + 1 = m.now + 1; rw [h.now], by show 0 ≤ m.now + 1; omega, hleft, by show sumL x.dem = x.used + 1; omega, by show k.ended + 1 = _; omega⟩
          · rw [if_neg c] at hrc' ⊢
            by_cases he : e < m.kept.length
            · rw [List.getElem?_append_left he] at hrc'
              obtain ⟨i', y, e0, e1, e2, e3, e4, e5, e6, e7, e8, e9, e10⟩ := keptOther e rc hrc'
              exact ⟨i', y, e1, (set_other _ e0).trans e2, e3, e4, e5, e6, e7, e8, e9, by rw [e10]; omega⟩
            · rw [List.getElem?_append_right (by omega)] at hrc'
              have hz : e - m.kept.length = 0 := by
                have := (List.getElem?_eq_some_iff.1 hrc').1
                simp at this
                omega
              rw [hz] at hrc'
              simp at hrc'
              subst hrc'
              exact ⟨i, _, hi, set_here _ hx, by show (x.task : Int) = t; rw [hj.task], hj.arr, hj.rel, by show k.now + 1 = m.now + 1; rw [h.now], by show 0 ≤ m.now + 1; omega, hleft, by show sumL x.dem = x.used + 1; omega, by show k.ended + 1 = _; omega⟩
        exact goal
      dn := by
        intro i' y hy hd
        rcases set_get hx hy with ⟨rfl, rfl⟩ | ⟨g1, g2⟩
        · refine .inr ⟨⟨t, j.arr, j.rel, m.now + 1, (runJ S t m.hold j).2.left, j.ord⟩, ?_, hi⟩
          show _ ∈ keep m.kept _
          rw [hkd]; simp
        · show y.ended ≤ k.ended + 1 - 40 ∨ ∃ rc ∈ keep m.kept _, rc.ord = (i' : Int)
          rcases h.dn i' y g2 hd with g | ⟨rc, hrc, erc⟩
          · exact .inl (by omega)
          · by_cases c : m.kept.length = 40
            · obtain ⟨e, he, ee⟩ := List.getElem_of_mem hrc
              cases e with
              | zero =>
                refine .inl ?_
                obtain ⟨i2, y2, e1, e2, _, _, _, _, _, _, _, e10⟩ := h.kp 0 rc (by rw [List.getElem?_eq_getElem he, ee])
                have : i2 = i' := by omega
                subst this
                rw [g2] at e2
                cases e2
                rw [e10, c]; omega
              | succ e =>
                refine .inr ⟨rc, ?_, erc⟩
                rw [hkd, if_pos c]
                refine List.mem_append.2 (.inl ?_)
                refine List.mem_of_getElem? (i := e) ?_
                rw [List.getElem?_tail, List.getElem?_eq_getElem he, ee]
            · refine .inr ⟨rc, ?_, erc⟩
              rw [hkd, if_neg c]
              exact List.mem_append.2 (.inl hrc)
      kl := by
        have hL := hlen' ⟨t, j.arr, j.rel, m.now + 1, (runJ S t m.hold j).2.left, j.ord⟩
        show 0 ≤ k.ended + 1 ∧ (((keep m.kept _).length : Int) = 40 ∧ 40 ≤ k.ended + 1 ∨ ((keep m.kept _).length : Int) = k.ended + 1 ∧ k.ended + 1 ≤ 40)
        rw [hL]
        refine ⟨by omega, ?_⟩
        by_cases c : m.kept.length = 40
        · rw [if_pos c]
          exact .inl ⟨rfl, by omega⟩
        · rw [if_neg c]
          exact .inr ⟨by omega, by omega⟩
      arr0 := by
        intro i' y hy
        rcases set_get hx hy with ⟨rfl, rfl⟩ | ⟨g1, g2⟩
        · exact h.arr0 i' x hx
        · exact h.arr0 i' y g2
      last := by
        intro a ha
        show lastTo (k.jobs.set i _) a = if 0 < upd m.done t (m.done t + 1) a + (upd m.q t r a).length then m.last a else -1
        have e1 : lastTo (k.jobs.set i { x with used := x.used + 1, done := k.now + 1, ended := k.ended + 1 }) a = lastTo k.jobs a := by
          unfold lastTo
          rw [map_set_same _ hx]
          rfl
        rw [e1, h.last a ha]
        by_cases e : a = t
        · subst e
          rw [upd_same, upd_same, hq, List.length_cons]
          rw [if_pos (by omega), if_pos (by omega)]
        · rw [upd_other _ _ e, upd_other _ _ e]
      cnt := by
        intro a ha
        show cntO a (k.jobs.set i _) = (upd m.q t r a).length
        rw [cntO_set a _ hx, h.cnt a ha]
        have hnow := h.now
        have e1 : opB a { x with used := x.used + 1, done := k.now + 1, ended := k.ended + 1 } = false := by
          unfold opB
          refine decide_eq_false (fun g => ?_)
          have : k.now + 1 < 0 := g.2
          omega
        rw [e1]
        by_cases e : a = t
        · subst e
          have e2 : opB a x = true := decide_eq_true ⟨hj.task, by omega⟩
          rw [upd_same, hq, e2, List.length_cons]
          simp
        · have e2 : opB a x = false := decide_eq_false (fun g => e (g.1.symm.trans hj.task))
          rw [upd_other _ _ e, e2]
          simp
      en := by have := h.en; show k.ended + 1 ≤ k.now + 1; omega
      dm := by
        intro i' y hy
        rcases set_get hx hy with ⟨rfl, rfl⟩ | ⟨g1, g2⟩
        · obtain ⟨d1, d2, d3, d4⟩ := h.dm i' x hx
          exact ⟨d1, d2, by show 0 ≤ x.used + 1; omega, by show x.used + 1 ≤ sumL x.dem; omega⟩
        · exact h.dm i' y g2 }

end Go.Proofs.YtdabcflpcklfiaaGreat.Cad

/- Plain mathematics of Runs: a job arrives; the first of a task; what is told. -/
namespace Go.Proofs.YtdabcflpcklfiaaGreat.Cad

theorem snoc_get {α : Type} {l : List α} {x : α} {q : Nat} {y : α} (h : (l ++ [x])[q]? = some y) : (q = l.length ∧ y = x) ∨ (q < l.length ∧ l[q]? = some y) := by
  by_cases c : q < l.length
  · rw [List.getElem?_append_left c] at h
    exact .inr ⟨c, h⟩
  · rw [List.getElem?_append_right (by omega)] at h
    have := (List.getElem?_eq_some_iff.1 h).1
    simp at this
    have hz : q - l.length = 0 := by omega
    rw [hz] at h
    simp at h
    exact .inl ⟨by omega, h.symm⟩

theorem rr_added {S : Sy} {m : Mc} {k : RK} (h : RR S m k) (ho : Ok S m) {t : Nat} {jit : Int} {dem : List Int} (ht : t < S.n) (hf : Fits (S.K t) (S.N t) (S.L t) (fun q => dem.getD q 0) dem.length) :
    RR S (added S m t jit (fun q => dem.getD q 0)) { k with jobs := k.jobs ++ [⟨t, k.now, k.now + jit, dem, 0, -1, 0⟩] } := by
  have hn : 0 ≤ m.now := ho.now0
  have hlen := h.len
  have hlt : ∀ (i : Nat) (x : RJ), k.jobs[i]? = some x → i < k.jobs.length := fun i x hx => (List.getElem?_eq_some_iff.1 hx).1
  have hleft : ∀ (i : Nat) (x : RJ), k.jobs[i]? = some x → (k.jobs ++ [(⟨t, k.now, k.now + jit, dem, 0, -1, 0⟩ : RJ)])[i]? = some x := fun i x hx => by rw [List.getElem?_append_left (hlt i x hx)]; exact hx
  have hnew : (k.jobs ++ [(⟨t, k.now, k.now + jit, dem, 0, -1, 0⟩ : RJ)])[k.jobs.length]? = some ⟨t, k.now, k.now + jit, dem, 0, -1, 0⟩ := by simp
  exact {
    now := h.now
    idle := h.idle
    len := by show (((k.jobs ++ [_]).length : Nat) : Int) = m.arrd + 1; rw [List.length_append, List.length_singleton]; omega
    jr := by
      intro a ha y hy
      have hy' : y ∈ upd m.q t (m.q t ++ [jobOf S m t jit (fun q => dem.getD q 0)]) a := hy
      have old : y ∈ m.q a → ∃ (i : Nat) (x : RJ), y.ord = (i : Int) ∧ (k.jobs ++ [(⟨t, k.now, k.now + jit, dem, 0, -1, 0⟩ : RJ)])[i]? = some x ∧ JR S a y x := by
        intro g
        obtain ⟨i, x, e1, e2, e3⟩ := h.jr a ha y g
        exact ⟨i, x, e1, hleft i x e2, e3⟩
      by_cases e : a = t
      · subst e
        rw [upd_same] at hy'
        rcases List.mem_append.1 hy' with g | g
        · exact old g
        · rw [List.mem_singleton.1 g]
          exact ⟨k.jobs.length, _, hlen.symm, hnew, ⟨rfl, h.now, by show k.now + jit = m.now + jit; rw [h.now], rfl, hf, UR.new _ _ _ _ rfl (fun _ => rfl)⟩⟩
      · rw [upd_other _ _ e] at hy'
        exact old hy'
    op := by
      intro i x hx hd
      rcases snoc_get hx with ⟨rfl, rfl⟩ | ⟨_, g⟩
      · refine ⟨ht, jobOf S m t jit (fun q => dem.getD q 0), ?_, hlen.symm⟩
        show _ ∈ upd m.q t _ t
        rw [upd_same]; simp
      · obtain ⟨q1, j0, q2, q3⟩ := h.op i x g hd
        refine ⟨q1, j0, ?_, q3⟩
        show j0 ∈ upd m.q t (m.q t ++ [_]) x.task
        by_cases e : x.task = t
        · rw [e, upd_same]
          rw [e] at q2
          exact List.mem_append.2 (.inl q2)
        · rw [upd_other _ _ e]; exact q2
    inc := by
      intro a ha
      show (upd m.q t (m.q t ++ [_]) a).Pairwise _
      by_cases e : a = t
      · subst e
        rw [upd_same, List.pairwise_append]
        refine ⟨h.inc a ha, List.pairwise_singleton _ _, fun y hy z hz => ?_⟩
        rw [List.mem_singleton.1 hz]
        obtain ⟨i, x, e1, e2, _⟩ := h.jr a ha y hy
        have := hlt i x e2
        show y.ord < m.arrd
        omega
      · rw [upd_other _ _ e]; exact h.inc a ha
    kp := by
      intro e r hr
      obtain ⟨i, x, e1, e2, e3⟩ := h.kp e r hr
      exact ⟨i, x, e1, hleft i x e2, e3⟩
    dn := by
      intro i x hx hd
      rcases snoc_get hx with ⟨rfl, rfl⟩ | ⟨_, g⟩
      · have : (0 : Int) ≤ -1 := hd
        omega
      · exact h.dn i x g hd
    kl := h.kl
    arr0 := by
      intro i x hx
      rcases snoc_get hx with ⟨rfl, rfl⟩ | ⟨_, g⟩
      · show 0 ≤ k.now; rw [h.now]; exact hn
      · exact h.arr0 i x g
    last := by
      intro a ha
      show lastTo (k.jobs ++ [_]) a = if 0 < m.done a + (upd m.q t (m.q t ++ [_]) a).length then upd m.last t m.now a else -1
      have hk0 : 0 ≤ k.now := by rw [h.now]; exact hn
      unfold lastTo
      rw [List.map_append, List.map_singleton, lastP_snoc _ _ _ hk0]
      by_cases e : a = t
      · subst e
        rw [upd_same, upd_same, List.length_append, List.length_singleton]
        rw [if_pos rfl, if_pos (by omega)]
        exact h.now
      · rw [upd_other _ _ e, upd_other _ _ e]
        rw [if_neg (fun g => e g.symm)]
        exact h.last a ha
    cnt := by
      intro a ha
      show cntO a (k.jobs ++ [_]) = (upd m.q t (m.q t ++ [_]) a).length
      rw [cntO_snoc, h.cnt a ha]
      by_cases e : a = t
      · subst e
        have e2 : opB a (⟨a, k.now, k.now + jit, dem, 0, -1, 0⟩ : RJ) = true := decide_eq_true ⟨rfl, show (-1 : Int) < 0 by decide⟩
        rw [upd_same, e2, List.length_append, List.length_singleton]
        simp
      · have e2 : opB a (⟨t, k.now, k.now + jit, dem, 0, -1, 0⟩ : RJ) = false := decide_eq_false (fun g => e g.1.symm)
        rw [upd_other _ _ e, e2]
        simp
    en := h.en
    dm := by
      intro i x hx
      rcases snoc_get hx with ⟨rfl, rfl⟩ | ⟨_, g⟩
      · have hr := fits_range hf (fun p hp h1 => ((ho.steps t ht).2.2.2.2.2 p hp h1).2)
        have hs := sumL_range hr dem.length (Nat.le_refl _)
        rw [List.take_length] at hs
        have hc := cmpTo_le (S.K t) (S.L t)
        have hcm : cmpTo (S.K t) (S.L t) = dem.length := hf.2
        have hL := (ho.len t ht).2
        exact ⟨hr, by show dem.length ≤ 16; omega, Int.le_refl _, hs.1⟩
      · exact h.dm i x g }

/-- The first job of a task that is not done. -/
theorem RR.first {S : Sy} {m : Mc} {k : RK} (h : RR S m k) {t : Nat} {j : Jb} {r : List Jb} (ht : t < S.n) (hq : m.q t = j :: r) : ∃ (i : Nat) (x : RJ), j.ord = (i : Int) ∧ k.jobs[i]? = some x ∧ JR S t j x ∧ ∀ (i' : Nat) (y : RJ), i' < i → k.jobs[i']? = some y → ¬ (y.task = t ∧ y.done < 0) := by
  obtain ⟨i, x, hi, hx, hj⟩ := h.jr t ht j (by rw [hq]; simp)
  refine ⟨i, x, hi, hx, hj, ?_⟩
  rintro i' y hlt hy ⟨g1, g2⟩
  obtain ⟨_, j0, q2, q3⟩ := h.op i' y hy g2
  rw [g1, hq] at q2
  rcases List.mem_cons.1 q2 with g | g
  · subst g; omega
  · have hinc := h.inc t ht
    rw [hq] at hinc
    have := (List.pairwise_cons.1 hinc).1 j0 g
    omega

theorem RR.none {S : Sy} {m : Mc} {k : RK} (h : RR S m k) {t : Nat} (hq : m.q t = []) : ∀ (i : Nat) (y : RJ), k.jobs[i]? = some y → ¬ (y.task = t ∧ y.done < 0) := by
  rintro i y hy ⟨g1, g2⟩
  obtain ⟨_, j0, q2, _⟩ := h.op i y hy g2
  rw [g1, hq] at q2
  cases q2

theorem dem_tail {K N M : Nat → Int} {a : Nat} : ∀ d, (∀ i, a ≤ i → i < a + d → N i = M i) → demTo K N (a + d) - demTo K N a = demTo K M (a + d) - demTo K M a
  | 0, _ => by show demTo K N a - demTo K N a = demTo K M a - demTo K M a; omega
  | d + 1, h => by
    have ih := dem_tail (K := K) d (fun i h1 h2 => h i h1 (by omega))
    have e1 : demTo K N (a + (d + 1)) = demTo K N (a + d) + (if K (a + d) = 1 then N (a + d) else 0) := rfl
    have e2 : demTo K M (a + (d + 1)) = demTo K M (a + d) + (if K (a + d) = 1 then M (a + d) else 0) := rfl
    rw [e1, e2, h (a + d) (by omega) (by omega)]
    omega

/-- What is left of a job. -/
theorem UR.left {K M : Nat → Int} {L : Nat} {j : Jb} {used : Int} (hj : JbOk K L j) (h : UR K M L j used) : j.left = demTo K M L - used := by
  have hp := hj.lt
  have hl := hj.left
  have ht := dem_tail (K := K) (N := j.N) (M := M) (a := j.p + 1) (L - (j.p + 1)) (fun i h1 h2 => h.rest i (by omega) (by omega))
  rw [show j.p + 1 + (L - (j.p + 1)) = L by omega] at ht
  have e1 : demTo K j.N (j.p + 1) = demTo K j.N j.p + (if K j.p = 1 then j.N j.p else 0) := rfl
  have e2 : demTo K M (j.p + 1) = demTo K M j.p + (if K j.p = 1 then M j.p else 0) := rfl
  have hh := h.here
  by_cases c : K j.p = 1
  · rw [if_pos c] at e1 e2 hh
    omega
  · rw [if_neg c] at e1 e2 hh
    have hu : used = demTo K M j.p := by
      rcases h.pl with ⟨h1, h2⟩ | ⟨h1, h2, h3, h4, h5⟩ | ⟨h1, h2, h3, h4, h5⟩
      · rw [h1, h2]; rfl
      · exact absurd h3 c
      · exact h4
    omega

/-! ### what is told -/
def toldB (k : RK) (x : RJ) : Bool := !decide (0 ≤ x.done ∧ x.ended ≤ k.ended - 40)
def viewR (x : RJ) : Int × Int × Int × Int × Int := ((x.task : Int), x.arr, x.rel, x.done, sumL x.dem - x.used)
def viewC (r : Rc) : Int × Int × Int × Int × Int := (r.task, r.arr, r.rel, r.done, r.left)

/-- A record, and the job that it tells of. -/
theorem RR.tells {S : Sy} {m : Mc} {k : RK} (ho : Ok S m) (h : RR S m k) {r : Rc} (hr : r ∈ allRecs S m) : ∃ (i : Nat) (x : RJ), r.ord = (i : Int) ∧ k.jobs[i]? = some x ∧ toldB k x = true ∧ viewR x = viewC r := by
  rcases mem_recs.1 hr with g | ⟨t, ht, j, hj, rfl⟩
  · obtain ⟨e, he, ee⟩ := List.getElem_of_mem g
    obtain ⟨i, x, e1, e2, e3, e4, e5, e6, e7, e8, e9, e10⟩ := h.kp e r (by rw [List.getElem?_eq_getElem he, ee])
    refine ⟨i, x, e1, e2, ?_, ?_⟩
    · have hkl := h.kl
      unfold toldB
      rw [Bool.not_eq_true', decide_eq_false_iff_not]
      rintro ⟨_, g2⟩
      omega
    · unfold viewR viewC
      rw [e3, e4, e5, e6, e8, e9, Int.sub_self]
  · obtain ⟨i, x, e1, e2, e3⟩ := h.jr t ht j hj
    refine ⟨i, x, e1, e2, ?_, ?_⟩
    · unfold toldB
      rw [Bool.not_eq_true', decide_eq_false_iff_not]
      rintro ⟨g1, _⟩
      have := e3.done
      omega
    · have hl := e3.ur.left (ho.job t ht j hj).1
      rw [e3.total] at hl
      unfold viewR viewC openRc
      rw [e3.task, e3.arr, e3.rel, e3.done, hl]

/-- Each job that is told of has its record. -/
theorem RR.back {S : Sy} {m : Mc} {k : RK} (h : RR S m k) {i : Nat} {x : RJ} (hx : k.jobs[i]? = some x) (ht : toldB k x = true) : ∃ r ∈ allRecs S m, r.ord = (i : Int) := by
  unfold toldB at ht
  rw [Bool.not_eq_true', decide_eq_false_iff_not] at ht
  by_cases c : x.done < 0
  · obtain ⟨q1, j0, q2, q3⟩ := h.op i x hx c
    exact ⟨openRc x.task j0, mem_recs.2 (.inr ⟨x.task, q1, j0, q2, rfl⟩), q3⟩
  · rcases h.dn i x hx (by omega) with g | ⟨r, hr, e⟩
    · exact absurd ⟨by omega, g⟩ ht
    · exact ⟨r, mem_recs.2 (.inl hr), e⟩

end Go.Proofs.YtdabcflpcklfiaaGreat.Cad

/- Plain mathematics of Runs: what is told, as lists; what a job holds. -/
namespace Go.Proofs.YtdabcflpcklfiaaGreat.Cad

theorem sorted_unique {α : Type} (key : α → Int) : ∀ {A B : List α}, A.Pairwise (fun a b => key a < key b) → B.Pairwise (fun a b => key a < key b) → (∀ x, x ∈ A ↔ x ∈ B) → A = B
  | [], [], _, _, _ => rfl
  | [], b :: B, _, _, h => by have := (h b).2 (by simp); cases this
  | a :: A, [], _, _, h => by have := (h a).1 (by simp); cases this
  | a :: A, b :: B, hA, hB, h => by
    obtain ⟨a1, a2⟩ := List.pairwise_cons.1 hA
    obtain ⟨b1, b2⟩ := List.pairwise_cons.1 hB
    have e : a = b := by
      rcases List.mem_cons.1 ((h a).1 (by simp)) with g | g
      · exact g
      · rcases List.mem_cons.1 ((h b).2 (by simp)) with g' | g'
        · exact g'.symm
        · have h1 := b1 a g
          have h2 := a1 b g'
          omega
    subst e
    rw [sorted_unique key a2 b2 (fun x => ?_)]
    constructor
    · intro hx
      rcases List.mem_cons.1 ((h x).1 (List.mem_cons_of_mem _ hx)) with g | g
      · subst g
        have := a1 x hx
        omega
      · exact g
    · intro hx
      rcases List.mem_cons.1 ((h x).2 (List.mem_cons_of_mem _ hx)) with g | g
      · subst g
        have := b1 x hx
        omega
      · exact g

theorem RR.nodup {S : Sy} {m : Mc} {k : RK} (h : RR S m k) : (allRecs S m).Pairwise (fun a b => a.ord ≠ b.ord) := by
  unfold allRecs
  rw [List.pairwise_append]
  refine ⟨?_, ?_, ?_⟩
  · rw [List.pairwise_iff_getElem]
    intro a b ha hb hab e
    obtain ⟨i, x, e1, e2, _, _, _, _, _, _, _, e3⟩ := h.kp a _ (List.getElem?_eq_getElem ha)
    obtain ⟨i', x', f1, f2, _, _, _, _, _, _, _, f3⟩ := h.kp b _ (List.getElem?_eq_getElem hb)
    have : i = i' := by omega
    subst this
    rw [e2] at f2
    cases f2
    omega
  · rw [List.pairwise_flatMap]
    refine ⟨fun t ht => ?_, ?_⟩
    · have ht' := List.mem_range.1 ht
      rw [List.pairwise_map]
      exact (h.inc t ht').imp (fun g e => by
        have e' : _ = _ := e
        simp only [openRc] at e'
        omega)
    · refine (List.pairwise_lt_range).imp_of_mem ?_
      intro a b ha hb hab r hr r' hr' e
      obtain ⟨j, hj, rfl⟩ := List.mem_map.1 hr
      obtain ⟨j', hj', rfl⟩ := List.mem_map.1 hr'
      obtain ⟨i, x, e1, e2, e3⟩ := h.jr a (List.mem_range.1 ha) j hj
      obtain ⟨i', x', f1, f2, f3⟩ := h.jr b (List.mem_range.1 hb) j' hj'
      have e' : j.ord = j'.ord := e
      have : i = i' := by omega
      subst this
      rw [e2] at f2
      cases f2
      have := e3.task
      have := f3.task
      omega
  · intro r hr r' hr' e
    obtain ⟨q, hq, eq⟩ := List.getElem_of_mem hr
    obtain ⟨i, x, e1, e2, _, _, _, e6, e7, _⟩ := h.kp q r (by rw [List.getElem?_eq_getElem hq, eq])
    simp only [List.mem_flatMap, List.mem_range, List.mem_map] at hr'
    obtain ⟨t, ht, j, hj, rfl⟩ := hr'
    obtain ⟨i', x', f1, f2, f3⟩ := h.jr t ht j hj
    have e' : r.ord = j.ord := e
    have : i = i' := by omega
    subst this
    rw [e2] at f2
    cases f2
    have := f3.done
    omega

/-- What the two kernels tell is the same. -/
theorem RR.told {S : Sy} {m : Mc} {k : RK} (ho : Ok S m) (h : RR S m k) {l : List Rc} (hp : l.Perm (allRecs S m)) (hs : l.Pairwise (fun a b => a.ord ≤ b.ord)) : l.map viewC = (k.jobs.filter (toldB k)).map viewR := by
  have hnd : l.Pairwise (fun a b => a.ord ≠ b.ord) := (hp.pairwise_iff (fun {a b} g e => g e.symm)).2 h.nodup
  have hlt : l.Pairwise (fun a b => a.ord < b.ord) := by
    have := hs.and hnd
    exact this.imp (fun {a b} g => by have := g.1; have := g.2; omega)
  have hA : (l.map fun r => (r.ord, viewC r)).Pairwise (fun a b => a.1 < b.1) := by
    rw [List.pairwise_map]; exact hlt
  have hB : ((k.jobs.zipIdx.filter fun p => toldB k p.1).map fun p => ((p.2 : Int), viewR p.1)).Pairwise (fun a b => a.1 < b.1) := by
    rw [List.pairwise_map]
    refine List.Pairwise.filter _ ?_
    rw [List.pairwise_iff_getElem]
    intro a b ha hb hab
    simp only [List.getElem_zipIdx]
    omega
  have e := sorted_unique (fun p : Int × (Int × Int × Int × Int × Int) => p.1) hA hB (fun p => by
    constructor
    · intro hx
      obtain ⟨r, hr, rfl⟩ := List.mem_map.1 hx
      obtain ⟨i, x, e1, e2, e3, e4⟩ := h.tells ho (hp.mem_iff.1 hr)
      refine List.mem_map.2 ⟨(x, i), List.mem_filter.2 ⟨List.mem_zipIdx_iff_getElem?.2 e2, e3⟩, ?_⟩
      show ((i : Int), viewR x) = (r.ord, viewC r)
      rw [e1, e4]
    · intro hx
      obtain ⟨⟨x, i⟩, hxi, rfl⟩ := List.mem_map.1 hx
      obtain ⟨h1, h2⟩ := List.mem_filter.1 hxi
      have h1' : k.jobs[i]? = some x := List.mem_zipIdx_iff_getElem?.1 h1
      obtain ⟨r, hr, er⟩ := h.back h1' h2
      obtain ⟨i', x', e1, e2, _, e4⟩ := h.tells ho hr
      have : i' = i := by omega
      subst this
      rw [h1'] at e2
      cases e2
      refine List.mem_map.2 ⟨r, hp.mem_iff.2 hr, ?_⟩
      show (r.ord, viewC r) = ((i' : Int), viewR x)
      rw [e1, e4])
  have e2 := congrArg (List.map Prod.snd) e
  rw [List.map_map, List.map_map] at e2
  have f1 : l.map viewC = l.map (Prod.snd ∘ fun r => (r.ord, viewC r)) := rfl
  have f2 : (k.jobs.zipIdx.filter fun p => toldB k p.1).map (Prod.snd ∘ fun p => ((p.2 : Int), viewR p.1)) = (k.jobs.filter (toldB k)).map viewR := by
    have g1 : (k.jobs.zipIdx.filter fun p => toldB k p.1).map Prod.fst = k.jobs.filter (toldB k) := by
      have : k.jobs.filter (toldB k) = (k.jobs.zipIdx.map Prod.fst).filter (toldB k) := by rw [List.zipIdx_map_fst]
      rw [this, List.filter_map]
      rfl
    rw [← g1, List.map_map]
    rfl
  rw [f1, e2, f2]

end Go.Proofs.YtdabcflpcklfiaaGreat.Cad

/- Plain mathematics of Runs: what a job holds, and its active priority, told by its ticks. -/
namespace Go.Proofs.YtdabcflpcklfiaaGreat.Cad

/-- The greatest of a priority and the ceilings of what is held. -/
def actF (C : Nat → Int) : Int → List Int → Int
  | z, [] => z
  | z, r :: l => actF C (if z < C r.toNat then C r.toNat else z) l

theorem actF_spec (C : Nat → Int) : ∀ (l : List Int) (z : Int), z ≤ actF C z l ∧ (∀ r ∈ l, C r.toNat ≤ actF C z l) ∧ (actF C z l = z ∨ ∃ r ∈ l, actF C z l = C r.toNat)
  | [], z => ⟨Int.le_refl _, fun r hr => (by cases hr), .inl rfl⟩
  | r :: l, z => by
    obtain ⟨h1, h2, h3⟩ := actF_spec C l (if z < C r.toNat then C r.toNat else z)
    have e : actF C z (r :: l) = actF C (if z < C r.toNat then C r.toNat else z) l := rfl
    rw [e]
    by_cases c : z < C r.toNat
    · rw [if_pos c] at h1 h2 h3 ⊢
      refine ⟨by omega, fun x hx => ?_, ?_⟩
      · rcases List.mem_cons.1 hx with g | g
        · rw [g]; exact h1
        · exact h2 x g
      · rcases h3 with g | ⟨x, hx, g⟩
        · exact .inr ⟨r, by simp, g⟩
        · exact .inr ⟨x, List.mem_cons_of_mem _ hx, g⟩
    · rw [if_neg c] at h1 h2 h3 ⊢
      refine ⟨h1, fun x hx => ?_, ?_⟩
      · rcases List.mem_cons.1 hx with g | g
        · rw [g]; omega
        · exact h2 x g
      · rcases h3 with g | ⟨x, hx, g⟩
        · exact .inl g
        · exact .inr ⟨x, List.mem_cons_of_mem _ hx, g⟩

theorem actF_snoc (C : Nat → Int) (r : Int) : ∀ (l : List Int) (z : Int), actF C z (l ++ [r]) = if actF C z l < C r.toNat then C r.toNat else actF C z l
  | [], _ => rfl
  | _ :: l, _ => actF_snoc C r l _

/-- The numbers of what is held are resources. -/
theorem held_res {S : Sy} {t : Nat} {p : Nat} {h : List Int} (hh : stTo (S.K t) (S.N t) p = some h) {r : Int} (hr : r ∈ h) : ∃ q : Nat, q < 8 ∧ r = (q : Int) := by
  have := (prog_inv _ _ p h hh).rng r hr
  exact ⟨r.toNat, by omega, by omega⟩

/-- The active priority, by the list of what is held. -/
theorem act_held {S : Sy} {m : Mc} (hs : SyOk S) (ho : Ok S m) (hl : LkInv S m) {t : Nat} {j : Jb} {r : List Jb} (ht : t < S.n) (hq : m.q t = j :: r) {h : List Int} (hh : stTo (S.K t) (S.N t) j.p = some h) : actF S.C (S.Z t) h = actP S m t ∧ (0 < h.length ↔ 0 < hasH S m t) := by
  have hlt := (ho.job t ht j (by rw [hq]; simp)).1.lt
  have hin : ∀ q : Nat, q < 8 → ((q : Int) ∈ h ↔ m.hold q = (t : Int)) := by
    intro q hq8
    rw [held_inside (r := q) (hs.prog t ht) (Nat.le_of_lt hlt) hh, hl.iff q t hq8 ht]
    constructor
    · intro g; exact ⟨j, r, hq, g⟩
    · rintro ⟨j', r', e, g⟩
      rw [hq] at e
      cases e
      exact g
  obtain ⟨a1, a2, a3, a4, a5⟩ := act_spec S m.hold t 8
  obtain ⟨f1, f2, f3⟩ := actF_spec S.C h (S.Z t)
  refine ⟨?_, ?_⟩
  · show actF S.C (S.Z t) h = (actTo S m.hold t 8).1
    have le1 : actF S.C (S.Z t) h ≤ (actTo S m.hold t 8).1 := by
      rcases f3 with g | ⟨x, hx, g⟩
      · omega
      · obtain ⟨q, hq8, rfl⟩ := held_res hh hx
        have := a2 q hq8 ((hin q hq8).1 hx)
        rw [g, Int.toNat_natCast]
        exact this
    have le2 : (actTo S m.hold t 8).1 ≤ actF S.C (S.Z t) h := by
      rcases a3 with g | ⟨q, hq8, e, g⟩
      · omega
      · have := f2 (q : Int) ((hin q hq8).2 e)
        rw [Int.toNat_natCast] at this
        omega
    omega
  · constructor
    · intro g
      obtain ⟨x, hx⟩ : ∃ x, x ∈ h := ⟨h[0], List.getElem_mem g⟩
      obtain ⟨q, hq8, rfl⟩ := held_res hh hx
      have := a4 ⟨q, hq8, (hin q hq8).1 hx⟩
      show 0 < (actTo S m.hold t 8).2
      omega
    · intro g
      by_cases c : ∃ q, q < 8 ∧ m.hold q = (t : Int)
      · obtain ⟨q, hq8, e⟩ := c
        exact List.length_pos_of_mem ((hin q hq8).2 e)
      · have := (a5 c).1
        have g' : 0 < (actTo S m.hold t 8).2 := g
        omega

/-- Where the document's walk through the program stands at step i: it goes on, or it has its answer. -/
def goesOn (K M : Nat → Int) (L : Nat) (used : Int) (i : Nat) : Prop :=
  ∀ q, q < i → (K q = 1 → 0 ≤ used - demTo K M (q + 1)) ∧ (K q = 2 → used - demTo K M q ≠ 0) ∧ ¬ (used - demTo K M (q + 1) = 0 ∧ K q = 1 ∧ q + 1 < L ∧ K (q + 1) ≠ 3)

/-- It comes as far as the job's place, and no farther. -/
theorem PL.goes {K M : Nat → Int} {L p : Nat} {used : Int} (h : PL K M L p used) (hu : 0 < used) (hM : ∀ i, i < L → K i = 1 → 1 ≤ M i) (hk : ∀ i, i < L → K i = 1 ∨ K i = 2 ∨ K i = 3) : ∃ e, e ≤ p ∧ p < L ∧ goesOn K M L used e ∧ (∀ i, e ≤ i → i < p → K i = 1) ∧ p ≤ e + 1 ∧
    ((e = p ∧ ((K p = 1 ∧ used - demTo K M (p + 1) < 0) ∨ (K p = 2 ∧ used - demTo K M p = 0))) ∨ (e + 1 = p ∧ K e = 1 ∧ used - demTo K M (e + 1) = 0 ∧ K (e + 1) ≠ 3)) := by
  have mono : ∀ a b, a ≤ b → b ≤ L → demTo K M a ≤ demTo K M b := by
    intro a b hab hb
    have : ∀ d, a + d ≤ L → demTo K M a ≤ demTo K M (a + d) := by
      intro d
      induction d with
      | zero => intro _; exact Int.le_refl _
      | succ d ih =>
        intro hd
        have := ih (by omega)
        have e : demTo K M (a + (d + 1)) = demTo K M (a + d) + (if K (a + d) = 1 then M (a + d) else 0) := rfl
        rw [e]
        by_cases g : K (a + d) = 1
        · have := hM (a + d) (by omega) g
          rw [if_pos g]; omega
        · rw [if_neg g]; omega
    have := this (b - a) (by omega)
    rwa [show a + (b - a) = b by omega] at this
  rcases h with ⟨h1, _⟩ | ⟨h1, h2, h3, h4, h5⟩ | ⟨h1, h2, h3, h4, c, h6, h7, h8⟩
  · omega
  · refine ⟨p, Nat.le_refl _, h2, fun q hq => ?_, fun i _ _ => by omega, by omega, .inl ⟨rfl, .inl ⟨h3, by omega⟩⟩⟩
    have m1 := mono q p (by omega) (by omega)
    have m2 := mono (q + 1) p (by omega) (by omega)
    exact ⟨fun _ => by omega, fun _ => by omega, fun g => by omega⟩
  · have hflat : ∀ q, c < q → q ≤ p → demTo K M q = used := by
      intro q h9 h10
      have := dem_flat (K := K) (N := M) (a := q) (p - q) (fun i g1 g2 => by rw [h8 i (by omega) (by omega)]; decide)
      rw [show q + (p - q) = p by omega] at this
      omega
    have hlow : ∀ q, q ≤ c → demTo K M q < used := by
      intro q hq
      have m1 := mono q c hq (by omega)
      have e := dem_comp (M := M) h7
      have := hM c (by omega) h7
      have := hflat (c + 1) (by omega) (by omega)
      omega
    by_cases hcp : c + 1 = p
    · have hc1 : ∀ i, c ≤ i → i < p → K i = 1 := by
        intro i g1 g2
        have : i = c := by omega
        rw [this]
        exact h7
      refine ⟨c, by omega, h2, fun q hq => ?_, hc1, by omega, .inr ⟨hcp, h7, ?_, by rw [hcp]; exact h3⟩⟩
      · have m1 := hlow q (by omega)
        have m2 := hlow (q + 1) (by omega)
        exact ⟨fun _ => by omega, fun _ => by omega, fun g => by omega⟩
      · have := hflat (c + 1) (by omega) (by omega); omega
    · refine ⟨p, Nat.le_refl _, h2, fun q hq => ?_, fun i _ _ => by omega, by omega, .inl ⟨rfl, ?_⟩⟩
      · by_cases g0 : q < c
        · have m1 := hlow q (by omega)
          have m2 := hlow (q + 1) (by omega)
          exact ⟨fun _ => by omega, fun _ => by omega, fun g => by omega⟩
        · by_cases g1 : q = c
          · subst g1
            have m1 := hlow q (by omega)
            have m2 := hflat (q + 1) (by omega) (by omega)
            exact ⟨fun _ => by omega, fun _ => by omega, fun g => absurd (h8 (q + 1) (by omega) (by omega)) g.2.2.2⟩
          · have k3 := h8 q (by omega) hq
            rw [k3]
            exact ⟨fun g => by omega, fun g => by omega, fun g => by omega⟩
      · by_cases k1 : K p = 1
        · have e := dem_comp (M := M) k1
          have := hM p h2 k1
          exact .inl ⟨k1, by omega⟩
        · by_cases k2 : K p = 2
          · exact .inr ⟨k2, by omega⟩
          · have := hk p h2
            omega

end Go.Proofs.YtdabcflpcklfiaaGreat.Cad
