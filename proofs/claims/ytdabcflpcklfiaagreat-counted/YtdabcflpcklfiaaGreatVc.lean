import Derived.Test.YtdabcflpcklfiaaGreatRb
/- Plain mathematics: what the law's own runs know, beside the kernel. -/
namespace Go.Proofs.YtdabcflpcklfiaaGreat.Cad

/-- A run that the law goes along with. -/
structure Wr where
  ready : Int
  left : List Int
  step : Nat
  held : List Int
  since : List Int
  bk : Int
  fr : Int

/-- What the law itself knows. -/
structure Wt where
  now : Int
  idle : Int
  given : Int
  asked : Int
  runs : Nat → List Wr

/-- The numbers of the Computes of d steps from p on. -/
def cmpsF (K N : Nat → Int) : Nat → Nat → List Int
  | 0, _ => []
  | d + 1, p => if K p = 1 then N p :: cmpsF K N d (p + 1) else cmpsF K N d (p + 1)

def cmpsFrom (K N : Nat → Int) (L p : Nat) : List Int := cmpsF K N (L - p) p

theorem cmps_end (K N : Nat → Int) {L p : Nat} (h : L ≤ p) : cmpsFrom K N L p = [] := by
  unfold cmpsFrom
  rw [show L - p = 0 from by omega]
  rfl

theorem cmps_here {K N : Nat → Int} {L p : Nat} (hp : p < L) (h1 : K p = 1) : cmpsFrom K N L p = N p :: cmpsFrom K N L (p + 1) := by
  unfold cmpsFrom
  rw [show L - p = (L - (p + 1)) + 1 from by omega]
  simp only [cmpsF]
  rw [if_pos h1]

theorem cmps_skip1 {K N : Nat → Int} {L p : Nat} (hp : p < L) (h1 : K p ≠ 1) : cmpsFrom K N L p = cmpsFrom K N L (p + 1) := by
  unfold cmpsFrom
  rw [show L - p = (L - (p + 1)) + 1 from by omega]
  simp only [cmpsF]
  rw [if_neg h1]

theorem cmps_skip {K N : Nat → Int} {L : Nat} : ∀ d p, p + d ≤ L → (∀ i, p ≤ i → i < p + d → K i ≠ 1) → cmpsFrom K N L p = cmpsFrom K N L (p + d)
  | 0, p, _, _ => rfl
  | d + 1, p, hl, h => by
    rw [cmps_skip1 (by omega) (h p (Nat.le_refl _) (by omega)), cmps_skip d (p + 1) (by omega) (fun i h1 h2 => h i (by omega) (by omega))]
    congr 1
    omega

theorem cmpsF_congr {K N N' : Nat → Int} : ∀ d p, (∀ i, p ≤ i → i < p + d → K i = 1 → N' i = N i) → cmpsF K N' d p = cmpsF K N d p
  | 0, _, _ => rfl
  | d + 1, p, h => by
    simp only [cmpsF]
    rw [cmpsF_congr d (p + 1) (fun i h1 h2 => h i (by omega) (by omega))]
    by_cases h1 : K p = 1
    · rw [if_pos h1, if_pos h1, h p (Nat.le_refl _) (by omega) h1]
    · rw [if_neg h1, if_neg h1]

theorem cmps_congr {K N N' : Nat → Int} {L p : Nat} (h : ∀ i, p ≤ i → i < L → K i = 1 → N' i = N i) : cmpsFrom K N' L p = cmpsFrom K N L p :=
  cmpsF_congr _ _ (fun i h1 h2 => h i h1 (by omega))

/-- The demands of a new job. -/
theorem cmps_new {K N : Nat → Int} {L : Nat} {l : List Int} (hl : l.length = cmpTo K L) : ∀ d p, p + d = L → cmpsFrom K (numOf K N (fun q => l.getD q 0)) L p = l.drop (cmpTo K p)
  | 0, p, hp => by
    rw [cmps_end _ _ (by omega), show p = L from by omega, ← hl, List.drop_length]
  | d + 1, p, hp => by
    have ih := cmps_new (N := N) hl d (p + 1) (by omega)
    have hs : cmpTo K (p + 1) = if K p = 1 then cmpTo K p + 1 else cmpTo K p := rfl
    by_cases h1 : K p = 1
    · rw [cmps_here (by omega) h1, ih, hs, if_pos h1]
      have hm := cmp_mono K d (p + 1)
      rw [show p + 1 + d = L from by omega, hs, if_pos h1] at hm
      have hlt : cmpTo K p < l.length := by omega
      rw [List.drop_eq_getElem_cons hlt]
      congr 1
      unfold numOf
      rw [if_pos h1]
      simp [List.getD, hlt]
    · rw [cmps_skip1 (by omega) h1, ih, hs, if_neg h1]

/-- Behind the place of a Compute there is something left. -/
theorem cmps_ne {K N : Nat → Int} {L p : Nat} (hp : p < L) (hl : K (L - 1) = 1) : cmpsFrom K N L p ≠ [] := by
  have main : ∀ d p, p + d + 1 = L → cmpsFrom K N L p ≠ [] := by
    intro d
    induction d with
    | zero => intro p hp; rw [cmps_here (by omega) (by rw [show p = L - 1 from by omega]; exact hl)]; simp
    | succ d ih =>
      intro p hp
      by_cases h1 : K p = 1
      · rw [cmps_here (by omega) h1]; simp
      · rw [cmps_skip1 (by omega) h1]; exact ih (p + 1) (by omega)
  exact main (L - p - 1) p (by omega)

/-! ### what is held -/

/-- The numbers of d steps from p on. -/
def locksF (N : Nat → Int) (p : Nat) : Nat → List Int
  | 0 => []
  | d + 1 => locksF N p d ++ [N (p + d)]

theorem locksF_len (N : Nat → Int) (p : Nat) : ∀ d, (locksF N p d).length = d
  | 0 => rfl
  | d + 1 => by simp [locksF, locksF_len N p d]

theorem locksF_mem {N : Nat → Int} {p : Nat} {x : Int} : ∀ d, x ∈ locksF N p d ↔ ∃ k, p ≤ k ∧ k < p + d ∧ N k = x
  | 0 => by simp [locksF]; omega
  | d + 1 => by
    simp only [locksF, List.mem_append, List.mem_singleton]
    rw [locksF_mem d]
    constructor
    · rintro (⟨k, h1, h2, h3⟩ | h)
      · exact ⟨k, h1, by omega, h3⟩
      · exact ⟨p + d, by omega, by omega, h.symm⟩
    · rintro ⟨k, h1, h2, h3⟩
      by_cases e : k = p + d
      · right; rw [← h3, e]
      · left; exact ⟨k, h1, by omega, h3⟩

theorem st_some_of {K N : Nat → Int} {L e : Nat} (h : progB K N L = true) (he : e ≤ L) : ∃ s, stTo K N e = some s := st_some h he

/-- Locks are laid on top. -/
theorem st_locks {K N : Nat → Int} {L p : Nat} {h : List Int} (hp : progB K N L = true) (hh : stTo K N p = some h) : ∀ d, p + d ≤ L → (∀ i, p ≤ i → i < p + d → K i = 2) → stTo K N (p + d) = some (h ++ locksF N p d)
  | 0, _, _ => by simpa [locksF] using hh
  | d + 1, hl, hk => by
    have ih := st_locks hp hh d (by omega) (fun i h1 h2 => hk i h1 (by omega))
    obtain ⟨s, hs⟩ := st_some hp (e := p + d + 1) (by omega)
    rw [show p + (d + 1) = p + d + 1 from by omega]
    have h2 := hk (p + d) (by omega) (by omega)
    have e : stTo K N (p + d + 1) = stepF (h ++ locksF N p d) (prevLock K (p + d)) (K (p + d)) (N (p + d)) := by
      show (stTo K N (p + d)).bind _ = _
      rw [ih]; rfl
    rw [e] at hs ⊢
    unfold stepF at hs ⊢
    rw [if_neg (by omega), if_pos h2] at hs ⊢
    split at hs
    · rename_i hc
      rw [if_pos hc]
      simp [locksF]
    · cases hs

theorem st_comp {K N : Nat → Int} {L p : Nat} {h : List Int} (hp : progB K N L = true) (hh : stTo K N p = some h) (hl : p < L) (hk : K p = 1) : stTo K N (p + 1) = some h := by
  obtain ⟨s, hs⟩ := st_some hp (e := p + 1) (by omega)
  have e : stTo K N (p + 1) = stepF h (prevLock K p) (K p) (N p) := by
    show (stTo K N p).bind _ = _
    rw [hh]; rfl
  rw [e] at hs ⊢
  unfold stepF at hs ⊢
  rw [if_pos hk] at hs ⊢
  split at hs
  · rename_i hc; rw [if_pos hc]
  · cases hs

/-- The list without its last d. -/
def cutN {α : Type} (l : List α) (d : Nat) : List α := l.take (l.length - d)

theorem st_unlocks {K N : Nat → Int} {L p : Nat} {h : List Int} (hp : progB K N L = true) (hh : stTo K N p = some h) : ∀ d, p + d ≤ L → (∀ i, p ≤ i → i < p + d → K i = 3) → stTo K N (p + d) = some (cutN h d) ∧ d ≤ h.length
  | 0, _, _ => by simpa [cutN] using hh
  | d + 1, hl, hk => by
    obtain ⟨ih, ihl⟩ := st_unlocks hp hh d (by omega) (fun i h1 h2 => hk i h1 (by omega))
    obtain ⟨s, hs⟩ := st_some hp (e := p + d + 1) (by omega)
    rw [show p + (d + 1) = p + d + 1 from by omega]
    have h2 := hk (p + d) (by omega) (by omega)
    have e : stTo K N (p + d + 1) = stepF (cutN h d) (prevLock K (p + d)) (K (p + d)) (N (p + d)) := by
      show (stTo K N (p + d)).bind _ = _
      rw [ih]; rfl
    rw [e] at hs ⊢
    unfold stepF at hs ⊢
    rw [if_neg (by omega), if_neg (by omega), if_pos h2] at hs ⊢
    split at hs
    · rename_i hc
      rw [if_pos hc]
      have hne : cutN h d ≠ [] := fun e0 => by rw [e0] at hc; simp at hc
      have hlen : (cutN h d).length = h.length - d := by unfold cutN; rw [List.length_take]; omega
      have h0 : 0 < (cutN h d).length := List.length_pos_iff.2 hne
      refine ⟨?_, by omega⟩
      congr 1
      unfold cutN
      rw [List.dropLast_eq_take, List.take_take, List.length_take]
      congr 1
      omega
    · cases hs

/-- r is held at p just if p lies inside a section of r. -/
theorem held_inside {S : Sy} {t p r : Nat} {h : List Int} (hp : progB (S.K t) (S.N t) (S.L t) = true) (hl : p ≤ S.L t) (hh : stTo (S.K t) (S.N t) p = some h) : ((r : Int) ∈ h ↔ Inside S t p r) := by
  have hi := prog_inv _ _ p h hh
  constructor
  · intro hm
    obtain ⟨k, h1, h2, h3, _, h5, _⟩ := hi.held _ hm
    obtain ⟨e, hc⟩ := lock_closed hp (by omega) h2
    rw [h3] at hc
    refine ⟨k, e, hc, h1, ?_⟩
    rcases Nat.lt_or_ge e p with g | g
    · exact absurd ⟨hc.2.2.2.2.1, hc.2.2.2.2.2.1⟩ (h5 e hc.1 g)
    · exact g
  · rintro ⟨k, e, hc, hk, he⟩
    rcases hi.locks (r : Int) k hk hc.2.2.1 hc.2.2.2.1 with ⟨e', hc', _⟩ | ⟨hm, _⟩
    · exfalso
      have h1 := hc'.2.1
      exact hc.2.2.2.2.2.2 e' hc'.1 (by omega) ⟨hc'.2.2.2.2.1, hc'.2.2.2.2.2.1⟩
    · exact hm

end Go.Proofs.YtdabcflpcklfiaaGreat.Cad

/- Plain mathematics: the law's own runs, and what they are beside the kernel's jobs. -/
namespace Go.Proofs.YtdabcflpcklfiaaGreat.Cad

/-- Since when the first one with a ceiling of at least z is held. -/
def sectOf (C : Nat → Int) (z : Int) : List Int → List Int → Int
  | h :: hs, s :: ss => if z ≤ C h.toNat then s else sectOf C z hs ss
  | _, _ => -1

theorem sect_none {C : Nat → Int} {z : Int} : ∀ {h s : List Int}, (∀ r ∈ h, C r.toNat < z) → sectOf C z h s = -1
  | [], _, _ => by simp [sectOf]
  | r :: hs, [], _ => by simp [sectOf]
  | r :: hs, a :: ss, g => by
    unfold sectOf
    rw [if_neg (by have := g r (by simp); omega)]
    exact sect_none (fun r hr => g r (by simp [hr]))

theorem sect_some {C : Nat → Int} {z : Int} : ∀ {h s : List Int}, s.length = h.length → (∃ r ∈ h, z ≤ C r.toNat) → ∃ (i : Nat) (r : Int), h[i]? = some r ∧ z ≤ C r.toNat ∧ (∀ (i' : Nat) (r' : Int), i' < i → h[i']? = some r' → C r'.toNat < z) ∧ s[i]? = some (sectOf C z h s)
  | [], _, _, g => by obtain ⟨r, hr, _⟩ := g; cases hr
  | r :: hs, [], hl, _ => by simp at hl
  | r :: hs, a :: ss, hl, g => by
    unfold sectOf
    by_cases e : z ≤ C r.toNat
    · rw [if_pos e]
      exact ⟨0, r, rfl, e, fun i' r' h => by omega, rfl⟩
    · rw [if_neg e]
      obtain ⟨i, r1, h1, h2, h3, h4⟩ := sect_some (C := C) (z := z) (h := hs) (s := ss) (by simpa using hl) (by
        obtain ⟨x, hx, hz⟩ := g
        rcases List.mem_cons.1 hx with rfl | hx
        · exact absurd hz e
        · exact ⟨x, hx, hz⟩)
      refine ⟨i + 1, r1, by simpa using h1, h2, fun i' r' hi hr => ?_, by simpa using h4⟩
      cases i' with
      | zero => simp at hr; subst hr; omega
      | succ i' => exact h3 i' r' (by omega) (by simpa using hr)

theorem sect_append {C : Nat → Int} {z : Int} {h2 s2 : List Int} : ∀ {h s : List Int}, s.length = h.length → (∃ r ∈ h, z ≤ C r.toNat) → sectOf C z (h ++ h2) (s ++ s2) = sectOf C z h s
  | [], _, _, g => by obtain ⟨r, hr, _⟩ := g; cases hr
  | r :: hs, [], hl, _ => by simp at hl
  | r :: hs, a :: ss, hl, g => by
    simp only [List.cons_append, sectOf]
    by_cases e : z ≤ C r.toNat
    · rw [if_pos e, if_pos e]
    · rw [if_neg e, if_neg e]
      exact sect_append (by simpa using hl) (by
        obtain ⟨x, hx, hz⟩ := g
        rcases List.mem_cons.1 hx with rfl | hx
        · exact absurd hz e
        · exact ⟨x, hx, hz⟩)

theorem sect_ex {C : Nat → Int} {z : Int} {h s : List Int} (h0 : 0 ≤ sectOf C z h s) : ∃ r ∈ h, z ≤ C r.toNat := by
  refine Classical.byContradiction (fun g => ?_)
  have := sect_none (C := C) (z := z) (h := h) (s := s) (fun r hr => by
    rcases Int.lt_or_le (C r.toNat) z with k | k
    · exact k
    · exact absurd ⟨r, hr, k⟩ g)
  omega

theorem sect_cut {C : Nat → Int} {z : Int} {h s : List Int} {d : Nat} (hl : s.length = h.length) (h0 : 0 ≤ sectOf C z (cutN h d) (cutN s d)) : sectOf C z (cutN h d) (cutN s d) = sectOf C z h s := by
  have hc : (cutN s d).length = (cutN h d).length := by unfold cutN; simp [hl]
  have e1 : h = cutN h d ++ h.drop (h.length - d) := by unfold cutN; exact (List.take_append_drop _ _).symm
  have e2 : s = cutN s d ++ s.drop (s.length - d) := by unfold cutN; exact (List.take_append_drop _ _).symm
  have := sect_append (C := C) (z := z) (h2 := h.drop (h.length - d)) (s2 := s.drop (s.length - d)) hc (sect_ex h0)
  rw [← e1, ← e2] at this
  exact this.symm

/-! ### what the law does -/

def goesW (S : Sy) (t : Nat) (now : Int) (x : Wr) : Wr :=
  { x with step := skip (S.K t) 2 (S.L t) x.step, held := x.held ++ locksF (S.N t) x.step (skip (S.K t) 2 (S.L t) x.step - x.step), since := x.since ++ List.replicate (skip (S.K t) 2 (S.L t) x.step - x.step) now }

def fairW (S : Sy) (now : Int) (t : Nat) (xg : Wr) (t' : Nat) (l : List Wr) : List Wr := match l with
  | [] => []
  | y :: r => if y.ready ≤ now ∧ S.Z t < S.Z t' then { y with bk := (t : Int), fr := sectOf S.C (S.Z t') xg.held xg.since } :: r else y :: r

def endW (S : Sy) (t : Nat) (xg : Wr) : Wr := match xg.left with
  | [] => xg
  | a :: r => if a - 1 = 0 then
      { xg with left := r, step := skip (S.K t) 3 (S.L t) (xg.step + 1), held := cutN xg.held (skip (S.K t) 3 (S.L t) (xg.step + 1) - (xg.step + 1)), since := cutN xg.since (skip (S.K t) 3 (S.L t) (xg.step + 1) - (xg.step + 1)) }
    else { xg with left := (a - 1) :: r }

def wakeW (now : Int) (l : List Wr) : List Wr := match l with
  | [] => []
  | y :: r => (if y.ready < now then { y with ready := now } else y) :: r

def wtick (S : Sy) (u : Wt) (t : Nat) (x : Wr) (l : List Wr) : Wt :=
  { u with now := u.now + 1, given := u.given + 1, runs := fun t' => if t' = t then (if (endW S t (goesW S t u.now x)).left = [] then wakeW (u.now + 1) l else endW S t (goesW S t u.now x) :: l) else fairW S u.now t (goesW S t u.now x) t' (u.runs t') }

def widle (u : Wt) : Wt := { u with now := u.now + 1, idle := u.idle + 1 }

def sumL : List Int → Int
  | [] => 0
  | a :: r => a + sumL r

def warr (u : Wt) (t : Nat) (jit : Int) (l : List Int) : Wt :=
  { u with asked := u.asked + sumL l, runs := upd u.runs t (u.runs t ++ [⟨u.now + jit, l, 0, [], [], -1, 0⟩]) }

def wstart : Wt := ⟨0, 0, 0, 0, fun _ => []⟩

/-! ### beside the kernel -/

/-- A run beside a job. -/
structure JW (S : Sy) (t : Nat) (x : Wr) (j : Jb) : Prop where
  step : x.step = j.p
  left : x.left = cmpsFrom (S.K t) j.N (S.L t) j.p
  held : stTo (S.K t) (S.N t) j.p = some x.held
  len : x.since.length = x.held.length
  ready : j.rel ≤ x.ready

structure WI (S : Sy) (m : Mc) (u : Wt) : Prop where
  now : u.now = m.now
  idle : u.idle = m.idle
  len : ∀ t, t < S.n → (u.runs t).length = (m.q t).length
  jw : ∀ t, t < S.n → ∀ (i : Nat) (x : Wr) (j : Jb), (u.runs t)[i]? = some x → (m.q t)[i]? = some j → JW S t x j
  hd : ∀ t x l j l', t < S.n → u.runs t = x :: l → m.q t = j :: l' → x.ready = j.rel ∨ x.ready ≤ m.now
  tl : ∀ t x l, t < S.n → u.runs t = x :: l → ∀ (i : Nat) (y : Wr) (j : Jb), l[i]? = some y → (m.q t)[i + 1]? = some j → y.bk = -1 ∧ y.ready = j.rel
  old : ∀ t x l, t < S.n → u.runs t = x :: l → ∀ s ∈ x.since, 0 ≤ s ∧ s < m.now
  byr : ∀ t y l, t < S.n → u.runs t = y :: l → 0 ≤ y.bk → y.ready < m.now
  i1 : ∀ a x l t y l', a < S.n → t < S.n → S.Z a < S.Z t → u.runs a = x :: l → u.runs t = y :: l' → ∀ (i : Nat) (s : Int), x.since[i]? = some s → y.ready ≤ s → ∃ (i' : Nat) (r' : Int), i' < i ∧ x.held[i']? = some r' ∧ S.Z t ≤ S.C r'.toNat
  i2 : ∀ t y l a x l', t < S.n → a < S.n → S.Z a < S.Z t → u.runs t = y :: l → 0 ≤ y.bk → u.runs a = x :: l' → 0 ≤ sectOf S.C (S.Z t) x.held x.since → sectOf S.C (S.Z t) x.held x.since < y.ready → (a : Int) = y.bk ∧ sectOf S.C (S.Z t) x.held x.since = y.fr

theorem wi_start (S : Sy) : WI S start wstart :=
  ⟨rfl, rfl, fun _ _ => rfl, fun t _ i x j h => (by simp [wstart] at h), fun t x l j l' _ h => (by cases h), fun t x l _ h => (by cases h), fun t x l _ h => (by cases h), fun t x l _ h => (by cases h), fun a x l t y l' _ _ _ h => (by cases h), fun t y l a x l' _ _ _ h => (by cases h)⟩

theorem WI.head {S : Sy} {m : Mc} {u : Wt} (h : WI S m u) {t : Nat} (ht : t < S.n) {j : Jb} {lq : List Jb} (hq : m.q t = j :: lq) : ∃ x l, u.runs t = x :: l ∧ JW S t x j ∧ l.length = lq.length := by
  have hl := h.len t ht
  rw [hq] at hl
  cases hr : u.runs t with
  | nil => rw [hr] at hl; simp at hl
  | cons x l =>
    rw [hr] at hl
    exact ⟨x, l, rfl, h.jw t ht 0 x j (by rw [hr]; rfl) (by rw [hq]; rfl), by simpa using hl⟩

theorem WI.kern {S : Sy} {m : Mc} {u : Wt} (h : WI S m u) {t : Nat} (ht : t < S.n) {x : Wr} {l : List Wr} (hr : u.runs t = x :: l) : ∃ j lq, m.q t = j :: lq ∧ JW S t x j ∧ l.length = lq.length := by
  have hl := h.len t ht
  rw [hr] at hl
  cases hq : m.q t with
  | nil => rw [hq] at hl; simp at hl
  | cons j lq =>
    rw [hq] at hl
    exact ⟨j, lq, rfl, h.jw t ht 0 x j (by rw [hr]; rfl) (by rw [hq]; rfl), by simpa using hl⟩

/-- A run is ready just if its job is. -/
theorem WI.ready {S : Sy} {m : Mc} {u : Wt} (h : WI S m u) {t : Nat} (ht : t < S.n) : readyB m t = true ↔ ∃ x l, u.runs t = x :: l ∧ x.ready ≤ u.now := by
  rw [h.now]
  constructor
  · intro hr
    unfold readyB at hr
    cases hq : m.q t with
    | nil => rw [hq] at hr; cases hr
    | cons j lq =>
      rw [hq] at hr
      simp only [decide_eq_true_eq] at hr
      obtain ⟨x, l, hx, hj, _⟩ := h.head ht hq
      refine ⟨x, l, hx, ?_⟩
      rcases h.hd t x l j lq ht hx hq with g | g
      · omega
      · exact g
  · rintro ⟨x, l, hx, hr⟩
    obtain ⟨j, lq, hq, hj, _⟩ := h.kern ht hx
    unfold readyB
    rw [hq]
    simp only [decide_eq_true_eq]
    have := hj.ready
    omega

/-- Runs behind the first one hold nothing. -/
theorem WI.rest {S : Sy} {m : Mc} {u : Wt} (hk : LkInv S m) (h : WI S m u) {t : Nat} (ht : t < S.n) {x : Wr} {l : List Wr} (hr : u.runs t = x :: l) : ∀ y ∈ l, y.held = [] ∧ y.since = [] := by
  intro y hy
  obtain ⟨j, lq, hq, _, hll⟩ := h.kern ht hr
  obtain ⟨i, hi, hyi⟩ := List.getElem_of_mem hy
  obtain ⟨j', hj'⟩ : ∃ j', lq[i]? = some j' := ⟨_, List.getElem?_eq_getElem (by omega)⟩
  have hw := h.jw t ht (i + 1) y j' (by rw [hr]; simp [List.getElem?_eq_getElem hi, hyi]) (by rw [hq]; simpa using hj')
  have hp := hk.rest t j lq ht hq j' (List.mem_of_getElem? hj')
  have h1 := hw.held
  rw [hp] at h1
  have h2 : y.held = [] := by
    have : (some [] : Option (List Int)) = some y.held := h1
    exact (Option.some.inj this).symm
  exact ⟨h2, List.length_eq_zero_iff.1 (by rw [hw.len, h2]; rfl)⟩

/-- What a run holds is what the kernel says that its task holds. -/
theorem WI.holds {S : Sy} {m : Mc} {u : Wt} (hs : SyOk S) (ho : Ok S m) (hk : LkInv S m) (h : WI S m u) {t : Nat} (ht : t < S.n) {x : Wr} {l : List Wr} (hr : u.runs t = x :: l) {r : Nat} (hr8 : r < 8) : ((r : Int) ∈ x.held ↔ m.hold r = (t : Int)) := by
  obtain ⟨j, lq, hq, hj, _⟩ := h.kern ht hr
  have hjo := (ho.job t ht j (by rw [hq]; simp)).1
  rw [held_inside (hs.prog t ht) (Nat.le_of_lt hjo.lt) hj.held, hk.iff r t hr8 ht]
  constructor
  · exact fun g => ⟨j, lq, hq, g⟩
  · rintro ⟨j', l', e, g⟩
    rw [hq] at e
    cases e
    exact g

/-- What is held are resources. -/
theorem WI.res {S : Sy} {m : Mc} {u : Wt} (h : WI S m u) {t : Nat} (ht : t < S.n) {x : Wr} {l : List Wr} (hr : u.runs t = x :: l) : ∀ r ∈ x.held, ∃ r' : Nat, r' < 8 ∧ r = (r' : Int) := by
  intro r hm
  obtain ⟨j, lq, hq, hj, _⟩ := h.kern ht hr
  have := (prog_inv _ _ _ _ hj.held).rng r hm
  exact ⟨r.toNat, by omega, by omega⟩

end Go.Proofs.YtdabcflpcklfiaaGreat.Cad

/- Plain mathematics: a tick, as the law goes along with it. -/
namespace Go.Proofs.YtdabcflpcklfiaaGreat.Cad

/-- Where a job comes to: to a Compute. -/
theorem place1 {K : Nat → Int} {L : Nat} {j : Jb} (hj : JbOk K L j) : j.p ≤ skip K 2 L j.p ∧ skip K 2 L j.p < L ∧ K (skip K 2 L j.p) = 1 ∧ ∀ i, j.p ≤ i → i < skip K 2 L j.p → K i = 2 := by
  have hlt := hj.lt
  obtain ⟨h1, h2, h3, h4⟩ := skip_spec K 2 (L := L) (p := j.p) (by omega)
  have hL : skip K 2 L j.p < L := by
    rcases Nat.lt_or_ge (skip K 2 L j.p) L with g | g
    · exact g
    · exfalso
      have := h3 (L - 1) (by omega) (by omega)
      rw [hj.last] at this
      omega
  refine ⟨h1, hL, ?_, h3⟩
  rcases hj.kind _ hL with g | g | g
  · exact g
  · exact absurd g (h4 hL)
  · exfalso
    by_cases e : skip K 2 L j.p = j.p
    · rw [e] at g; exact hj.here g
    · obtain ⟨q, hq⟩ : ∃ q, skip K 2 L j.p = q + 1 := ⟨skip K 2 L j.p - 1, by omega⟩
      have h5 := h3 q (by omega) (by omega)
      have h6 := hj.behind q (by omega) h5
      rw [hq] at g
      exact h6 g

theorem goes_held {S : Sy} {t : Nat} {x : Wr} {j : Jb} {now : Int} (hp : progB (S.K t) (S.N t) (S.L t) = true) (hj : JbOk (S.K t) (S.L t) j) (h : JW S t x j) :
    stTo (S.K t) (S.N t) (skip (S.K t) 2 (S.L t) j.p) = some (goesW S t now x).held ∧ (goesW S t now x).since.length = (goesW S t now x).held.length ∧ (goesW S t now x).step = skip (S.K t) 2 (S.L t) j.p ∧ (goesW S t now x).left = j.N (skip (S.K t) 2 (S.L t) j.p) :: cmpsFrom (S.K t) j.N (S.L t) (skip (S.K t) 2 (S.L t) j.p + 1) := by
  obtain ⟨p1, p2, p3, p4⟩ := place1 hj
  unfold goesW
  simp only [h.step]
  generalize skip (S.K t) 2 (S.L t) j.p = q at *
  refine ⟨?_, ?_, trivial, ?_⟩
  · have := st_locks hp h.held (q - j.p) (by omega) (fun i h1 h2 => p4 i h1 (by omega))
    rw [show j.p + (q - j.p) = q from by omega] at this
    exact this
  · rw [List.length_append, List.length_append, List.length_replicate, locksF_len, h.len]
  · rw [h.left, cmps_skip (q - j.p) j.p (by omega) (fun i h1 h2 => by rw [p4 i h1 (by omega)]; decide), show j.p + (q - j.p) = q from by omega]
    exact cmps_here p2 p3

/-- A run behind a tick is beside its job. -/
theorem jw_tick {S : Sy} {t : Nat} {x : Wr} {j : Jb} {now : Int} {hh : Nat → Int} (hp : progB (S.K t) (S.N t) (S.L t) = true) (hj : JbOk (S.K t) (S.L t) j) (h : JW S t x j) :
    JW S t (endW S t (goesW S t now x)) (runK (S.K t) (S.L t) t hh j).2 ∧ ((endW S t (goesW S t now x)).left = [] ↔ ¬ (runK (S.K t) (S.L t) t hh j).2.p < S.L t) ∧
    (∃ d, (endW S t (goesW S t now x)).held = cutN (goesW S t now x).held d ∧ (endW S t (goesW S t now x)).since = cutN (goesW S t now x).since d) ∧ (endW S t (goesW S t now x)).ready = x.ready ∧ (endW S t (goesW S t now x)).bk = x.bk ∧ (endW S t (goesW S t now x)).fr = x.fr := by
  obtain ⟨p1, p2, p3, p4⟩ := place1 hj
  obtain ⟨g1, g2, g3, g4⟩ := goes_held (now := now) hp hj h
  have hc := hj.comp _ p1 p2 p3
  have hr : (goesW S t now x).ready = x.ready ∧ (goesW S t now x).bk = x.bk ∧ (goesW S t now x).fr = x.fr := ⟨rfl, rfl, rfl⟩
  generalize goesW S t now x = xg at *
  unfold endW runK
  simp only [g4]
  generalize skip (S.K t) 2 (S.L t) j.p = q at *
  by_cases hz : 0 < j.N q - 1
  · rw [if_neg (show ¬ j.N q - 1 = 0 by omega), if_pos hz]
    refine ⟨⟨g3, ?_, g1, g2, by rw [hr.1]; exact h.ready⟩, ⟨fun e => (by cases e), fun e => absurd p2 e⟩, ⟨0, by simp [cutN], by simp [cutN]⟩, hr⟩
    show (j.N q - 1) :: _ = cmpsFrom (S.K t) (upd j.N q (j.N q - 1)) (S.L t) q
    rw [cmps_here p2 p3, upd_same]
    congr 1
    exact (cmps_congr (fun i h1 h2 h3 => upd_other _ _ (by omega))).symm
  · rw [if_pos (show j.N q - 1 = 0 by omega), if_neg hz]
    simp only [g3]
    obtain ⟨s1, s2, s3, s4⟩ := skip_spec (S.K t) 3 (L := S.L t) (p := q + 1) (by omega)
    have hst := st_comp hp g1 p2 p3
    generalize skip (S.K t) 3 (S.L t) (q + 1) = q2 at *
    obtain ⟨hu, hud⟩ := st_unlocks hp hst (q2 - (q + 1)) (by omega) (fun i h1 h2 => s3 i h1 (by omega))
    rw [show q + 1 + (q2 - (q + 1)) = q2 from by omega] at hu
    have hcm : cmpsFrom (S.K t) j.N (S.L t) (q + 1) = cmpsFrom (S.K t) (upd j.N q (j.N q - 1)) (S.L t) q2 := by
      rw [cmps_skip (q2 - (q + 1)) (q + 1) (by omega) (fun i h1 h2 => by rw [s3 i h1 (by omega)]; decide), show q + 1 + (q2 - (q + 1)) = q2 from by omega]
      exact (cmps_congr (fun i h1 h2 h3 => upd_other _ _ (by omega))).symm
    refine ⟨⟨rfl, hcm, hu, ?_, by rw [hr.1]; exact h.ready⟩, ⟨fun e g => ?_, fun g => ?_⟩, ⟨_, rfl, rfl⟩, hr⟩
    · show (cutN xg.since _).length = (cutN xg.held _).length
      unfold cutN
      rw [List.length_take, List.length_take, g2]
    · rw [hcm] at e
      exact cmps_ne (by exact g) hj.last e
    · show cmpsFrom (S.K t) j.N (S.L t) (q + 1) = []
      rw [hcm]
      exact cmps_end _ _ (by have : ¬ q2 < S.L t := g; omega)

/-- Whoever goes ahead of a higher one holds what keeps that one off. -/
theorem ahead_holds {S : Sy} {m : Mc} {t a : Nat} (hc : (chTo S m S.n).1 = (t : Int)) (ha : a < S.n) (hr : readyB m a = true) (hz : S.Z t < S.Z a) : ∃ r, r < 8 ∧ m.hold r = (t : Int) ∧ S.Z a ≤ S.C r := by
  obtain ⟨ht, hrt, hle⟩ := chosen_max hc ha hr
  obtain ⟨a1, a2, a3, a4, a5⟩ := act_spec S m.hold a 8
  obtain ⟨t1, t2, t3, t4, t5⟩ := act_spec S m.hold t 8
  have e2 : (actTo S m.hold t 8).2 ≤ 1 ∧ 0 ≤ (actTo S m.hold a 8).2 := by
    constructor
    · by_cases hh : ∃ r, r < 8 ∧ m.hold r = (t : Int)
      · rw [t4 hh]; omega
      · rw [(t5 hh).1]; omega
    · by_cases hh : ∃ r, r < 8 ∧ m.hold r = (a : Int)
      · rw [a4 hh]; omega
      · rw [(a5 hh).1]; omega
  unfold rank at hle
  rcases t3 with h3 | ⟨r, h3, h4, h5⟩
  · omega
  · exact ⟨r, h3, h4, by omega⟩

/-- Of two lower ones no two hold what keeps a higher one off. -/
theorem one_ahead {S : Sy} {m : Mc} (hk : LkInv S m) {a b t r r' : Nat} (ha : a < S.n) (hb : b < S.n) (hza : S.Z a < S.Z t) (hzb : S.Z b < S.Z t) (hr : r < 8) (hr' : r' < 8) (h1 : m.hold r = (a : Int)) (h2 : m.hold r' = (b : Int)) (c1 : S.Z t ≤ S.C r) (c2 : S.Z t ≤ S.C r') : a = b := by
  refine Classical.byContradiction (fun hne => ?_)
  rcases hk.pair a b ha hb hne ⟨r, hr, h1⟩ ⟨r', hr', h2⟩ with g | g
  · have := g r hr h1; omega
  · have := g r' hr' h2; omega

end Go.Proofs.YtdabcflpcklfiaaGreat.Cad
