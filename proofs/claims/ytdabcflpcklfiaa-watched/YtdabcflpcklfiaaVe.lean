import Derived.Test.YtdabcflpcklfiaaVd
/- Plain mathematics: the law's runs stay beside the jobs, behind a tick and behind an arrival. -/
namespace Go.Proofs.Ytdabcflpcklfiaa.Cad

theorem JW.congr {S : Sy} {t : Nat} {x y : Wr} {j : Jb} (h : JW S t x j) (h1 : y.step = x.step) (h2 : y.left = x.left) (h3 : y.held = x.held) (h4 : y.since = x.since) (h5 : x.ready ≤ y.ready) : JW S t y j :=
  ⟨h1.trans h.step, h2.trans h.left, by rw [h3]; exact h.held, by rw [h3, h4]; exact h.len, by have := h.ready; omega⟩

theorem wakeW_cons {now : Int} {l : List Wr} {y : Wr} {r : List Wr} (h : wakeW now l = y :: r) : ∃ y0, l = y0 :: r ∧ y.held = y0.held ∧ y.since = y0.since ∧ y.step = y0.step ∧ y.left = y0.left ∧ y.bk = y0.bk ∧ y.fr = y0.fr ∧ y0.ready ≤ y.ready ∧ now ≤ y.ready ∧ (y.ready = now ∨ y.ready = y0.ready) := by
  unfold wakeW at h
  cases l with
  | nil => cases h
  | cons y0 r0 =>
    simp only [] at h
    split at h
    · rename_i hc
      cases h
      exact ⟨y0, rfl, rfl, rfl, rfl, rfl, rfl, rfl, by show y0.ready ≤ now; omega, by show now ≤ now; omega, .inl rfl⟩
    · rename_i hc
      cases h
      exact ⟨_, rfl, rfl, rfl, rfl, rfl, rfl, rfl, Int.le_refl _, by omega, .inr rfl⟩

theorem wakeW_len (now : Int) (l : List Wr) : (wakeW now l).length = l.length := by
  unfold wakeW
  cases l with
  | nil => rfl
  | cons y r => rfl

theorem wakeW_get {now : Int} {l : List Wr} {i : Nat} {y : Wr} (h : (wakeW now l)[i]? = some y) : ∃ y0, l[i]? = some y0 ∧ y.held = y0.held ∧ y.since = y0.since ∧ y.step = y0.step ∧ y.left = y0.left ∧ y0.ready ≤ y.ready := by
  cases l with
  | nil => simp [wakeW] at h
  | cons y0 r =>
    cases i with
    | zero =>
      simp only [wakeW, List.getElem?_cons_zero, Option.some.injEq] at h
      split at h
      · rename_i hc; subst h; exact ⟨y0, rfl, rfl, rfl, rfl, rfl, by show y0.ready ≤ now; omega⟩
      · subst h; exact ⟨y0, rfl, rfl, rfl, rfl, rfl, Int.le_refl _⟩
    | succ i =>
      simp only [wakeW, List.getElem?_cons_succ] at h
      exact ⟨y, by simpa using h, rfl, rfl, rfl, rfl, Int.le_refl _⟩

theorem cut_get {α : Type} {l : List α} {d i : Nat} {x : α} (h : (cutN l d)[i]? = some x) : l[i]? = some x ∧ i < l.length - d := by
  unfold cutN at h
  rw [List.getElem?_take] at h
  split at h
  · exact ⟨h, by omega⟩
  · cases h

theorem get_cut {α : Type} {l : List α} {d i : Nat} (h : i < l.length - d) : (cutN l d)[i]? = l[i]? := by
  unfold cutN
  rw [List.getElem?_take, if_pos h]

/-- What is the tick's own, whichever way it comes out. -/
structure TickRun (S : Sy) (m : Mc) (t : Nat) (x x2 : Wr) (l : List Wr) (j j2 : Jb) (lq : List Jb) (q' : Nat → List Jb) (runs' : Nat → List Wr) (dn : Bool) : Prop where
  jw : JW S t x2 j2
  ready : x2.ready = x.ready
  bk : x2.bk = x.bk
  fr : x2.fr = x.fr
  cut : ∃ d, x2.held = cutN (goesW S t m.now x).held d ∧ x2.since = cutN (goesW S t m.now x).since d
  rel : j2.rel = j.rel
  way : (dn = false ∧ q' t = j2 :: lq ∧ runs' t = x2 :: l) ∨ (dn = true ∧ q' t = lq ∧ runs' t = wakeW (m.now + 1) l)

set_option maxHeartbeats 1000000 in
theorem wi_tickRun {S : Sy} {m m' : Mc} {u u' : Wt} (hs : SyOk S) (ho : Ok S m) (hk : LkInv S m) (h : WI S m u) {t : Nat} (hc : (chTo S m S.n).1 = (t : Int)) (ht : t < S.n) {x x2 : Wr} {l : List Wr} {j j2 : Jb} {lq : List Jb} (hq : m.q t = j :: lq) (hx : u.runs t = x :: l) {dn : Bool}
    (hr : TickRun S m t x x2 l j j2 lq m'.q u'.runs dn) (n1 : m'.now = m.now + 1) (n2 : m'.idle = m.idle) (n3 : u'.now = u.now + 1) (n4 : u'.idle = u.idle) (hQ : ∀ a, a ≠ t → m'.q a = m.q a) (hR : ∀ a, a ≠ t → u'.runs a = fairW S m.now t (goesW S t m.now x) a (u.runs a)) : WI S m' u' := by
  have hjx := (h.kern ht hx)
  obtain ⟨j', lq', hq', hjw, hll⟩ := hjx
  rw [hq] at hq'
  cases hq'
  have hnow := h.now
  have h0 := ho.now0
  obtain ⟨d, hcut1, hcut2⟩ := hr.cut
  have hlen2 : (goesW S t m.now x).since.length = (goesW S t m.now x).held.length := (goes_held (now := m.now) (hs.prog t ht) (ho.job t ht j (by rw [hq]; simp)).1 hjw).2.1
  have hgh : (goesW S t m.now x).held = x.held ++ locksF (S.N t) x.step (skip (S.K t) 2 (S.L t) x.step - x.step) := rfl
  have hgs : (goesW S t m.now x).since = x.since ++ List.replicate (skip (S.K t) 2 (S.L t) x.step - x.step) m.now := rfl
  have hfair : ∀ a y l', a < S.n → u.runs a = y :: l' → y.ready ≤ m.now → S.Z t < S.Z a → _ := fun a y l' ha hy hry hz => fair_ok hs ho hk h hc ht hx ha hy (by rw [hnow]; exact hry) hz
  rw [hnow] at hfair
  refine ⟨by rw [n3, n1, hnow], by rw [n4, n2, h.idle], fun a ha => ?_, fun a ha i y jy hy hjy => ?_, fun a y ly jy ljy ha hy hjy => ?_, fun a y ly ha hy i z jz hz hjz => ?_, fun a y ly ha hy s hsm => ?_, fun a y ly ha hy hb => ?_, fun a xa la b y lb ha hb hz hxa hy i s hsi hle => ?_, fun b y lb a xa la hb ha hz hy hbk hxa hs0 hslt => ?_⟩
  · by_cases e : a = t
    · subst e
      rcases hr.way with ⟨_, w1, w2⟩ | ⟨_, w1, w2⟩
      · rw [w1, w2]; simp [hll]
      · rw [w1, w2, wakeW_len]; exact hll
    · rw [hQ a e, hR a e, fairW_len]; exact h.len a ha
  · by_cases e : a = t
    · subst e
      rcases hr.way with ⟨_, w1, w2⟩ | ⟨_, w1, w2⟩
      · rw [w1] at hjy; rw [w2] at hy
        cases i with
        | zero => simp at hy hjy; subst hy; subst hjy; exact hr.jw
        | succ i => exact h.jw a ha (i + 1) y jy (by rw [hx]; simpa using hy) (by rw [hq]; simpa using hjy)
      · rw [w1] at hjy; rw [w2] at hy
        obtain ⟨y0, g1, g2, g3, g4, g5, g6⟩ := wakeW_get hy
        exact (h.jw a ha (i + 1) y0 jy (by rw [hx]; simpa using g1) (by rw [hq]; simpa using hjy)).congr g4 g5 g2 g3 g6
    · rw [hQ a e] at hjy; rw [hR a e] at hy
      obtain ⟨y0, g1, g2, g3, g4, g5, g6, _⟩ := fairW_get hy
      exact (h.jw a ha i y0 jy g1 hjy).congr g5 g6 g3 g4 (by rw [g2]; exact Int.le_refl _)
  · rw [n1]
    by_cases e : a = t
    · subst e
      rcases hr.way with ⟨_, w1, w2⟩ | ⟨_, w1, w2⟩
      · rw [w1] at hjy; rw [w2] at hy
        cases hjy; cases hy
        rw [hr.ready, hr.rel]
        rcases h.hd a x l j lq ha hx hq with g | g
        · exact .inl g
        · exact .inr (by omega)
      · rw [w1] at hjy; rw [w2] at hy
        obtain ⟨y0, g1, g2, g3, g4, g5, g6, g7, g8, g9, g10⟩ := wakeW_cons hy
        have := h.tl a x l ha hx 0 y0 jy (by rw [g1]; rfl) (by rw [hq, hjy]; rfl)
        rcases g10 with g | g
        · exact .inr (by omega)
        · exact .inl (by rw [g]; exact this.2)
    · rw [hQ a e] at hjy; rw [hR a e] at hy
      obtain ⟨y0, g1, g2, _⟩ := fairW_cons hy
      rw [g2]
      rcases h.hd a y0 ly jy ljy ha g1 hjy with g | g
      · exact .inl g
      · exact .inr (by omega)
  · by_cases e : a = t
    · subst e
      rcases hr.way with ⟨_, w1, w2⟩ | ⟨_, w1, w2⟩
      · rw [w1] at hjz; rw [w2] at hy
        cases hy
        exact h.tl a x l ha hx i z jz hz (by rw [hq]; simpa using hjz)
      · rw [w1] at hjz; rw [w2] at hy
        obtain ⟨y0, g1, _⟩ := wakeW_cons hy
        exact h.tl a x l ha hx (i + 1) z jz (by rw [g1]; simpa using hz) (by rw [hq]; simpa using hjz)
    · rw [hQ a e] at hjz; rw [hR a e] at hy
      obtain ⟨y0, g1, _⟩ := fairW_cons hy
      exact h.tl a y0 ly ha g1 i z jz hz hjz
  · rw [n1]
    by_cases e : a = t
    · subst e
      rcases hr.way with ⟨_, w1, w2⟩ | ⟨_, w1, w2⟩
      · rw [w2] at hy
        cases hy
        rw [hcut2] at hsm
        unfold cutN at hsm
        have hm2 := List.mem_of_mem_take hsm
        rw [hgs] at hm2
        rcases List.mem_append.1 hm2 with g | g
        · have := h.old a x l ha hx s g; omega
        · have := List.eq_of_mem_replicate g; omega
      · rw [w2] at hy
        obtain ⟨y0, g1, g2, g3, _⟩ := wakeW_cons hy
        have := (h.rest hk ha hx y0 (by rw [g1]; simp)).2
        rw [g3, this] at hsm
        cases hsm
    · rw [hR a e] at hy
      obtain ⟨y0, g1, g2, g3, g4, _⟩ := fairW_cons hy
      rw [g4] at hsm
      have := h.old a y0 ly ha g1 s hsm
      omega
  · rw [n1]
    by_cases e : a = t
    · subst e
      rcases hr.way with ⟨_, w1, w2⟩ | ⟨_, w1, w2⟩
      · rw [w2] at hy
        cases hy
        rw [hr.bk] at hb
        rw [hr.ready]
        have := h.byr a x l ha hx hb; omega
      · rw [w2] at hy
        obtain ⟨y0, g1, g2, g3, g4, g5, g6, _⟩ := wakeW_cons hy
        cases hlq : lq with
        | nil => rw [hlq, g1] at hll; simp at hll
        | cons jn ln =>
          have := h.tl a x l ha hx 0 y0 jn (by rw [g1]; rfl) (by rw [hq, hlq]; rfl)
          rw [g6] at hb; omega
    · rw [hR a e] at hy
      obtain ⟨y0, g1, g2, g3, g4, g5, g6, g7⟩ := fairW_cons hy
      rw [g2]
      rcases g7 with ⟨k1, k2, k3, k4⟩ | ⟨k1, k2, k3⟩
      · omega
      · rw [k2] at hb
        have := h.byr a y0 ly ha g1 hb; omega
  · -- i1
    by_cases ea : a = t
    · subst ea
      have eb : b ≠ a := fun e => by rw [e] at hz; omega
      rw [hR b eb] at hy
      obtain ⟨y0, g1, g2, _⟩ := fairW_cons hy
      rw [g2] at hle
      rcases hr.way with ⟨_, w1, w2⟩ | ⟨_, w1, w2⟩
      · rw [w2] at hxa
        cases hxa
        rw [hcut2] at hsi
        obtain ⟨c1, c2⟩ := cut_get hsi
        rw [hgs] at c1
        by_cases hi : i < x.since.length
        · rw [List.getElem?_append_left hi] at c1
          obtain ⟨i', r', k1, k2, k3⟩ := h.i1 a x _ b y0 lb ha hb hz hx g1 i s c1 hle
          refine ⟨i', r', k1, ?_, k3⟩
          rw [hcut1, get_cut (by rw [hlen2] at c2; omega), hgh, List.getElem?_append_left (by rw [← hjw.len]; omega)]
          exact k2
        · have hsn : s = m.now := by
            rw [List.getElem?_append_right (by omega)] at c1
            exact List.eq_of_mem_replicate (List.mem_of_getElem? c1)
          obtain ⟨⟨r, hrm, hrc⟩, _⟩ := hfair b y0 lb hb g1 (by omega) hz
          obtain ⟨i', hi', hri'⟩ := List.getElem_of_mem hrm
          have hl2 := hjw.len
          refine ⟨i', r, by omega, ?_, hrc⟩
          rw [hcut1, get_cut (by rw [hlen2] at c2; omega), hgh, List.getElem?_append_left hi', List.getElem?_eq_getElem hi', hri']
      · rw [w2] at hxa
        obtain ⟨y1, k1, k2, k3, _⟩ := wakeW_cons hxa
        have := (h.rest hk ha hx y1 (by rw [k1]; simp)).2
        rw [k3, this] at hsi
        simp at hsi
    · rw [hR a ea] at hxa
      obtain ⟨xa0, g1, g2, g3, g4, _⟩ := fairW_cons hxa
      rw [g4] at hsi
      rw [g3]
      by_cases eb : b = t
      · subst eb
        rcases hr.way with ⟨_, w1, w2⟩ | ⟨_, w1, w2⟩
        · rw [w2] at hy
          cases hy
          rw [hr.ready] at hle
          exact h.i1 a xa0 la b x _ ha hb hz g1 hx i s hsi hle
        · rw [w2] at hy
          obtain ⟨y1, k1, k2, k3, k4, k5, k6, k7, k8, k9, _⟩ := wakeW_cons hy
          have := h.old a xa0 la ha g1 s (List.mem_of_getElem? hsi)
          omega
      · rw [hR b eb] at hy
        obtain ⟨y0, k1, k2, _⟩ := fairW_cons hy
        rw [k2] at hle
        exact h.i1 a xa0 la b y0 lb ha hb hz g1 k1 i s hsi hle
  · -- i2
    by_cases eb : b = t
    · subst eb
      have ea : a ≠ b := fun e => by rw [e] at hz; omega
      rw [hR a ea] at hxa
      obtain ⟨xa0, g1, g2, g3, g4, _⟩ := fairW_cons hxa
      rw [g3, g4] at hs0 hslt ⊢
      rcases hr.way with ⟨_, w1, w2⟩ | ⟨_, w1, w2⟩
      · rw [w2] at hy
        cases hy
        rw [hr.bk] at hbk ⊢
        rw [hr.ready] at hslt
        rw [hr.fr]
        exact h.i2 b x l a xa0 la hb ha hz hx hbk g1 hs0 hslt
      · rw [w2] at hy
        obtain ⟨y1, k1, k2, k3, k4, k5, k6, _⟩ := wakeW_cons hy
        cases hlq : lq with
        | nil => rw [hlq, k1] at hll; simp at hll
        | cons jn ln =>
          have := h.tl b x l hb hx 0 y1 jn (by rw [k1]; rfl) (by rw [hq, hlq]; rfl)
          rw [k6] at hbk; omega
    · rw [hR b eb] at hy
      obtain ⟨y0, k1, k2, k3, k4, k5, k6, k7⟩ := fairW_cons hy
      rw [k2] at hslt
      by_cases ea : a = t
      · subst ea
        rcases hr.way with ⟨_, w1, w2⟩ | ⟨_, w1, w2⟩
        · rw [w2] at hxa
          cases hxa
          rw [hcut1, hcut2] at hs0 hslt ⊢
          have hse := sect_cut hlen2 hs0
          rcases k7 with ⟨q1, q2, q3, q4⟩ | ⟨q1, q2, q3⟩
          · exact ⟨q3.symm, by rw [q4]; exact hse⟩
          · exfalso
            rw [q2] at hbk
            have := h.byr b y0 lb hb k1 hbk
            exact q1 ⟨by omega, hz⟩
        · rw [w2] at hxa
          obtain ⟨y1, g1, g2, g3, _⟩ := wakeW_cons hxa
          have := (h.rest hk ha hx y1 (by rw [g1]; simp)).1
          rw [g2, this] at hs0
          simp [sectOf] at hs0
      · rw [hR a ea] at hxa
        obtain ⟨xa0, g1, g2, g3, g4, _⟩ := fairW_cons hxa
        rw [g3, g4] at hs0 hslt ⊢
        rcases k7 with ⟨q1, q2, q3, q4⟩ | ⟨q1, q2, q3⟩
        · exfalso
          obtain ⟨⟨r, hrm, hrc⟩, _⟩ := hfair b y0 lb hb k1 q1 q2
          obtain ⟨r2, hrm2, hrc2⟩ := sect_ex hs0
          obtain ⟨n1', hn1, e1⟩ := h.res ht hx r hrm
          obtain ⟨n2', hn2, e2⟩ := h.res ha g1 r2 hrm2
          subst e1; subst e2
          have w1 := (h.holds hs ho hk ht hx hn1).1 hrm
          have w2 := (h.holds hs ho hk ha g1 hn2).1 hrm2
          exact ea (one_ahead hk ha ht hz q2 hn2 hn1 w2 w1 (by simpa using hrc2) (by simpa using hrc))
        · rw [q2] at hbk ⊢
          rw [q3]
          exact h.i2 b y0 lb a xa0 la hb ha hz k1 hbk g1 hs0 hslt

end Go.Proofs.Ytdabcflpcklfiaa.Cad
