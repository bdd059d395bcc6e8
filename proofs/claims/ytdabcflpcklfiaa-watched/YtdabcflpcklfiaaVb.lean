import Derived.Test.YtdabcflpcklfiaaVa
/- Plain mathematics: the law's own runs, and what they are beside the kernel's jobs. -/
namespace Go.Proofs.Ytdabcflpcklfiaa.Cad

/-- Since when the first one with a ceiling of at least z is held. -/
def sectOf (C : Nat → Int) (z : Int) : List Int → List Int → Int
  | h :: hs, s :: ss => if z ≤ C h.toNat then s else sectOf C z hs ss
  | _, _ => -1

theorem sect_none {C : Nat → Int} {z : Int} : ∀ {h s : List Int}, (∀ r ∈ h, C r.toNat < z) → sectOf C z h s = -1
  | [], _, _ => by simp [sectOf]
  | r :: hs, [], _ => by simp [sectOf]
  | r :: hs, a :: ss, g => by
    unfold sectOf
    rw [if_neg (by have := g r (by simp); omega)]
    exact sect_none (fun r hr => g r (by simp [hr]))

theorem sect_some {C : Nat → Int} {z : Int} : ∀ {h s : List Int}, s.length = h.length → (∃ r ∈ h, z ≤ C r.toNat) → ∃ (i : Nat) (r : Int), h[i]? = some r ∧ z ≤ C r.toNat ∧ (∀ (i' : Nat) (r' : Int), i' < i → h[i']? = some r' → C r'.toNat < z) ∧ s[i]? = some (sectOf C z h s)
  | [], _, _, g => by obtain ⟨r, hr, _⟩ := g; cases hr
  | r :: hs, [], hl, _ => by simp at hl
  | r :: hs, a :: ss, hl, g => by
    unfold sectOf
    by_cases e : z ≤ C r.toNat
    · rw [if_pos e]
      exact ⟨0, r, rfl, e, fun i' r' h => by omega, rfl⟩
    · rw [if_neg e]
      obtain ⟨i, r1, h1, h2, h3, h4⟩ := sect_some (C := C) (z := z) (h := hs) (s := ss) (by simpa using hl) (by
        obtain ⟨x, hx, hz⟩ := g
        rcases List.mem_cons.1 hx with rfl | hx
        · exact absurd hz e
        · exact ⟨x, hx, hz⟩)
      refine ⟨i + 1, r1, by simpa using h1, h2, fun i' r' hi hr => ?_, by simpa using h4⟩
      cases i' with
      | zero => simp at hr; subst hr; omega
      | succ i' => exact h3 i' r' (by omega) (by simpa using hr)

theorem sect_append {C : Nat → Int} {z : Int} {h2 s2 : List Int} : ∀ {h s : List Int}, s.length = h.length → (∃ r ∈ h, z ≤ C r.toNat) → sectOf C z (h ++ h2) (s ++ s2) = sectOf C z h s
  | [], _, _, g => by obtain ⟨r, hr, _⟩ := g; cases hr
  | r :: hs, [], hl, _ => by simp at hl
  | r :: hs, a :: ss, hl, g => by
    simp only [List.cons_append, sectOf]
    by_cases e : z ≤ C r.toNat
    · rw [if_pos e, if_pos e]
    · rw [if_neg e, if_neg e]
      exact sect_append (by simpa using hl) (by
        obtain ⟨x, hx, hz⟩ := g
        rcases List.mem_cons.1 hx with rfl | hx
        · exact absurd hz e
        · exact ⟨x, hx, hz⟩)

theorem sect_ex {C : Nat → Int} {z : Int} {h s : List Int} (h0 : 0 ≤ sectOf C z h s) : ∃ r ∈ h, z ≤ C r.toNat := by
  refine Classical.byContradiction (fun g => ?_)
  have := sect_none (C := C) (z := z) (h := h) (s := s) (fun r hr => by
    rcases Int.lt_or_le (C r.toNat) z with k | k
    · exact k
    · exact absurd ⟨r, hr, k⟩ g)
  omega

theorem sect_cut {C : Nat → Int} {z : Int} {h s : List Int} {d : Nat} (hl : s.length = h.length) (h0 : 0 ≤ sectOf C z (cutN h d) (cutN s d)) : sectOf C z (cutN h d) (cutN s d) = sectOf C z h s := by
  have hc : (cutN s d).length = (cutN h d).length := by unfold cutN; simp [hl]
  have e1 : h = cutN h d ++ h.drop (h.length - d) := by unfold cutN; exact (List.take_append_drop _ _).symm
  have e2 : s = cutN s d ++ s.drop (s.length - d) := by unfold cutN; exact (List.take_append_drop _ _).symm
  have := sect_append (C := C) (z := z) (h2 := h.drop (h.length - d)) (s2 := s.drop (s.length - d)) hc (sect_ex h0)
  rw [← e1, ← e2] at this
  exact this.symm

/-! ### what the law does -/

def goesW (S : Sy) (t : Nat) (now : Int) (x : Wr) : Wr :=
  { x with step := skip (S.K t) 2 (S.L t) x.step, held := x.held ++ locksF (S.N t) x.step (skip (S.K t) 2 (S.L t) x.step - x.step), since := x.since ++ List.replicate (skip (S.K t) 2 (S.L t) x.step - x.step) now }

def fairW (S : Sy) (now : Int) (t : Nat) (xg : Wr) (t' : Nat) (l : List Wr) : List Wr := match l with
  | [] => []
  | y :: r => if y.ready ≤ now ∧ S.Z t < S.Z t' then { y with bk := (t : Int), fr := sectOf S.C (S.Z t') xg.held xg.since } :: r else y :: r

def endW (S : Sy) (t : Nat) (xg : Wr) : Wr := match xg.left with
  | [] => xg
  | a :: r => if a - 1 = 0 then
      { xg with left := r, step := skip (S.K t) 3 (S.L t) (xg.step + 1), held := cutN xg.held (skip (S.K t) 3 (S.L t) (xg.step + 1) - (xg.step + 1)), since := cutN xg.since (skip (S.K t) 3 (S.L t) (xg.step + 1) - (xg.step + 1)) }
    else { xg with left := (a - 1) :: r }

def wakeW (now : Int) (l : List Wr) : List Wr := match l with
  | [] => []
  | y :: r => (if y.ready < now then { y with ready := now } else y) :: r

def wtick (S : Sy) (u : Wt) (t : Nat) (x : Wr) (l : List Wr) : Wt :=
  { u with now := u.now + 1, given := u.given + 1, runs := fun t' => if t' = t then (if (endW S t (goesW S t u.now x)).left = [] then wakeW (u.now + 1) l else endW S t (goesW S t u.now x) :: l) else fairW S u.now t (goesW S t u.now x) t' (u.runs t') }

def widle (u : Wt) : Wt := { u with now := u.now + 1, idle := u.idle + 1 }

def sumL : List Int → Int
  | [] => 0
  | a :: r => a + sumL r

def warr (u : Wt) (t : Nat) (jit : Int) (l : List Int) : Wt :=
  { u with asked := u.asked + sumL l, runs := upd u.runs t (u.runs t ++ [⟨u.now + jit, l, 0, [], [], -1, 0⟩]) }

def wstart : Wt := ⟨0, 0, 0, 0, fun _ => []⟩

/-! ### beside the kernel -/

/-- A run beside a job. -/
structure JW (S : Sy) (t : Nat) (x : Wr) (j : Jb) : Prop where
  step : x.step = j.p
  left : x.left = cmpsFrom (S.K t) j.N (S.L t) j.p
  held : stTo (S.K t) (S.N t) j.p = some x.held
  len : x.since.length = x.held.length
  ready : j.rel ≤ x.ready

structure WI (S : Sy) (m : Mc) (u : Wt) : Prop where
  now : u.now = m.now
  idle : u.idle = m.idle
  len : ∀ t, t < S.n → (u.runs t).length = (m.q t).length
  jw : ∀ t, t < S.n → ∀ (i : Nat) (x : Wr) (j : Jb), (u.runs t)[i]? = some x → (m.q t)[i]? = some j → JW S t x j
  hd : ∀ t x l j l', t < S.n → u.runs t = x :: l → m.q t = j :: l' → x.ready = j.rel ∨ x.ready ≤ m.now
  tl : ∀ t x l, t < S.n → u.runs t = x :: l → ∀ (i : Nat) (y : Wr) (j : Jb), l[i]? = some y → (m.q t)[i + 1]? = some j → y.bk = -1 ∧ y.ready = j.rel
  old : ∀ t x l, t < S.n → u.runs t = x :: l → ∀ s ∈ x.since, 0 ≤ s ∧ s < m.now
  byr : ∀ t y l, t < S.n → u.runs t = y :: l → 0 ≤ y.bk → y.ready < m.now
  i1 : ∀ a x l t y l', a < S.n → t < S.n → S.Z a < S.Z t → u.runs a = x :: l → u.runs t = y :: l' → ∀ (i : Nat) (s : Int), x.since[i]? = some s → y.ready ≤ s → ∃ (i' : Nat) (r' : Int), i' < i ∧ x.held[i']? = some r' ∧ S.Z t ≤ S.C r'.toNat
  i2 : ∀ t y l a x l', t < S.n → a < S.n → S.Z a < S.Z t → u.runs t = y :: l → 0 ≤ y.bk → u.runs a = x :: l' → 0 ≤ sectOf S.C (S.Z t) x.held x.since → sectOf S.C (S.Z t) x.held x.since < y.ready → (a : Int) = y.bk ∧ sectOf S.C (S.Z t) x.held x.since = y.fr

theorem wi_start (S : Sy) : WI S start wstart :=
  ⟨rfl, rfl, fun _ _ => rfl, fun t _ i x j h => (by simp [wstart] at h), fun t x l j l' _ h => (by cases h), fun t x l _ h => (by cases h), fun t x l _ h => (by cases h), fun t x l _ h => (by cases h), fun a x l t y l' _ _ _ h => (by cases h), fun t y l a x l' _ _ _ h => (by cases h)⟩

theorem WI.head {S : Sy} {m : Mc} {u : Wt} (h : WI S m u) {t : Nat} (ht : t < S.n) {j : Jb} {lq : List Jb} (hq : m.q t = j :: lq) : ∃ x l, u.runs t = x :: l ∧ JW S t x j ∧ l.length = lq.length := by
  have hl := h.len t ht
  rw [hq] at hl
  cases hr : u.runs t with
  | nil => rw [hr] at hl; simp at hl
  | cons x l =>
    rw [hr] at hl
    exact ⟨x, l, rfl, h.jw t ht 0 x j (by rw [hr]; rfl) (by rw [hq]; rfl), by simpa using hl⟩

theorem WI.kern {S : Sy} {m : Mc} {u : Wt} (h : WI S m u) {t : Nat} (ht : t < S.n) {x : Wr} {l : List Wr} (hr : u.runs t = x :: l) : ∃ j lq, m.q t = j :: lq ∧ JW S t x j ∧ l.length = lq.length := by
  have hl := h.len t ht
  rw [hr] at hl
  cases hq : m.q t with
  | nil => rw [hq] at hl; simp at hl
  | cons j lq =>
    rw [hq] at hl
    exact ⟨j, lq, rfl, h.jw t ht 0 x j (by rw [hr]; rfl) (by rw [hq]; rfl), by simpa using hl⟩

/-- A run is ready just if its job is. -/
theorem WI.ready {S : Sy} {m : Mc} {u : Wt} (h : WI S m u) {t : Nat} (ht : t < S.n) : readyB m t = true ↔ ∃ x l, u.runs t = x :: l ∧ x.ready ≤ u.now := by
  rw [h.now]
  constructor
  · intro hr
    unfold readyB at hr
    cases hq : m.q t with
    | nil => rw [hq] at hr; cases hr
    | cons j lq =>
      rw [hq] at hr
      simp only [decide_eq_true_eq] at hr
      obtain ⟨x, l, hx, hj, _⟩ := h.head ht hq
      refine ⟨x, l, hx, ?_⟩
      rcases h.hd t x l j lq ht hx hq with g | g
      · omega
      · exact g
  · rintro ⟨x, l, hx, hr⟩
    obtain ⟨j, lq, hq, hj, _⟩ := h.kern ht hx
    unfold readyB
    rw [hq]
    simp only [decide_eq_true_eq]
    have := hj.ready
    omega

/-- Runs behind the first one hold nothing. -/
theorem WI.rest {S : Sy} {m : Mc} {u : Wt} (hk : LkInv S m) (h : WI S m u) {t : Nat} (ht : t < S.n) {x : Wr} {l : List Wr} (hr : u.runs t = x :: l) : ∀ y ∈ l, y.held = [] ∧ y.since = [] := by
  intro y hy
  obtain ⟨j, lq, hq, _, hll⟩ := h.kern ht hr
  obtain ⟨i, hi, hyi⟩ := List.getElem_of_mem hy
  obtain ⟨j', hj'⟩ : ∃ j', lq[i]? = some j' := ⟨_, List.getElem?_eq_getElem (by omega)⟩
  have hw := h.jw t ht (i + 1) y j' (by rw [hr]; simp [List.getElem?_eq_getElem hi, hyi]) (by rw [hq]; simpa using hj')
  have hp := hk.rest t j lq ht hq j' (List.mem_of_getElem? hj')
  have h1 := hw.held
  rw [hp] at h1
  have h2 : y.held = [] := by
    have : (some [] : Option (List Int)) = some y.held := h1
    exact (Option.some.inj this).symm
  exact ⟨h2, List.length_eq_zero_iff.1 (by rw [hw.len, h2]; rfl)⟩

/-- What a run holds is what the kernel says that its task holds. -/
theorem WI.holds {S : Sy} {m : Mc} {u : Wt} (hs : SyOk S) (ho : Ok S m) (hk : LkInv S m) (h : WI S m u) {t : Nat} (ht : t < S.n) {x : Wr} {l : List Wr} (hr : u.runs t = x :: l) {r : Nat} (hr8 : r < 8) : ((r : Int) ∈ x.held ↔ m.hold r = (t : Int)) := by
  obtain ⟨j, lq, hq, hj, _⟩ := h.kern ht hr
  have hjo := (ho.job t ht j (by rw [hq]; simp)).1
  rw [held_inside (hs.prog t ht) (Nat.le_of_lt hjo.lt) hj.held, hk.iff r t hr8 ht]
  constructor
  · exact fun g => ⟨j, lq, hq, g⟩
  · rintro ⟨j', l', e, g⟩
    rw [hq] at e
    cases e
    exact g

/-- What is held are resources. -/
theorem WI.res {S : Sy} {m : Mc} {u : Wt} (h : WI S m u) {t : Nat} (ht : t < S.n) {x : Wr} {l : List Wr} (hr : u.runs t = x :: l) : ∀ r ∈ x.held, ∃ r' : Nat, r' < 8 ∧ r = (r' : Int) := by
  intro r hm
  obtain ⟨j, lq, hq, hj, _⟩ := h.kern ht hr
  have := (prog_inv _ _ _ _ hj.held).rng r hm
  exact ⟨r.toNat, by omega, by omega⟩

end Go.Proofs.Ytdabcflpcklfiaa.Cad
