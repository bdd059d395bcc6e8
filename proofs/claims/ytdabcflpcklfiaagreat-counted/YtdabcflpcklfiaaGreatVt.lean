import Derived.Test.YtdabcflpcklfiaaGreatVc
/- Plain mathematics: what the law looks at in a tick is as it must be, and its runs stay beside the jobs. -/
namespace Go.Proofs.YtdabcflpcklfiaaGreat.Cad

/-- P13, at one tick. -/
theorem fair_ok {S : Sy} {m : Mc} {u : Wt} (hs : SyOk S) (ho : Ok S m) (hk : LkInv S m) (h : WI S m u) {t : Nat} (hc : (chTo S m S.n).1 = (t : Int)) (ht : t < S.n) {x : Wr} {l : List Wr} (hx : u.runs t = x :: l) {a : Nat} {y : Wr} {l' : List Wr} (ha : a < S.n) (hy : u.runs a = y :: l') (hr : y.ready ≤ u.now) (hz : S.Z t < S.Z a) :
    (∃ r ∈ x.held, S.Z a ≤ S.C r.toNat) ∧ sectOf S.C (S.Z a) (goesW S t u.now x).held (goesW S t u.now x).since = sectOf S.C (S.Z a) x.held x.since ∧
    0 ≤ sectOf S.C (S.Z a) x.held x.since ∧ sectOf S.C (S.Z a) x.held x.since < y.ready ∧ (0 ≤ y.bk → y.bk = (t : Int) ∧ y.fr = sectOf S.C (S.Z a) x.held x.since) := by
  have hra : readyB m a = true := (h.ready ha).2 ⟨y, l', hy, hr⟩
  obtain ⟨r, hr8, hh, hcr⟩ := ahead_holds hc ha hra hz
  obtain ⟨j, lq, hq, hj, _⟩ := h.kern ht hx
  have hm : (r : Int) ∈ x.held := (h.holds hs ho hk ht hx hr8).2 hh
  have hex : ∃ r ∈ x.held, S.Z a ≤ S.C r.toNat := ⟨(r : Int), hm, by simpa using hcr⟩
  obtain ⟨i, ri, h1, h2, h3, h4⟩ := sect_some (C := S.C) (z := S.Z a) hj.len hex
  have hs0 := h.old t x l ht hx _ (List.mem_of_getElem? h4)
  have hlt : sectOf S.C (S.Z a) x.held x.since < y.ready := by
    rcases Int.lt_or_le (sectOf S.C (S.Z a) x.held x.since) y.ready with g | g
    · exact g
    · exfalso
      obtain ⟨i', r', hi', hr', hc'⟩ := h.i1 t x l a y l' ht ha hz hx hy i _ h4 g
      have := h3 i' r' hi' hr'
      omega
  refine ⟨hex, sect_append hj.len hex, hs0.1, hlt, fun hb => ?_⟩
  obtain ⟨e1, e2⟩ := h.i2 a y l' t x l ha ht hz hy hb hx hs0.1 hlt
  exact ⟨e1.symm, e2.symm⟩

/-- P12, at one Lock. -/
theorem free_ok {S : Sy} {m : Mc} {u : Wt} (hs : SyOk S) (ho : Ok S m) (hk : LkInv S m) (h : WI S m u) {t : Nat} (hc : (chTo S m S.n).1 = (t : Int)) (ht : t < S.n) {x : Wr} {l : List Wr} (hx : u.runs t = x :: l) {d : Nat} (hd : x.step + d < skip (S.K t) 2 (S.L t) x.step) :
    S.N t (x.step + d) ∉ x.held ++ locksF (S.N t) x.step d ∧ (∀ y ∈ l, S.N t (x.step + d) ∉ y.held) ∧ ∀ a, a < S.n → a ≠ t → ∀ y ∈ u.runs a, S.N t (x.step + d) ∉ y.held := by
  obtain ⟨j, lq, hq, hj, _⟩ := h.kern ht hx
  have hjo := (ho.job t ht j (by rw [hq]; simp)).1
  obtain ⟨p1, p2, p3, p4⟩ := place1 hjo
  rw [hj.step] at hd ⊢
  generalize skip (S.K t) 2 (S.L t) j.p = q at *
  have hp := hs.prog t ht
  have hk2 := p4 (j.p + d) (by omega) (by omega)
  have hst := st_locks hp hj.held (d + 1) (by omega) (fun i h1 h2 => p4 i h1 (by omega))
  have hnd := (prog_inv _ _ _ _ hst).nodup
  have hrg := (prog_inv _ _ _ _ hst).rng (S.N t (j.p + d)) (by rw [List.mem_append, locksF_mem]; exact .inr ⟨j.p + d, by omega, by omega, rfl⟩)
  obtain ⟨r, hr8, hrn⟩ : ∃ r : Nat, r < 8 ∧ S.N t (j.p + d) = (r : Int) := ⟨(S.N t (j.p + d)).toNat, by omega, by omega⟩
  have hfree := lock_free_of hs hk hc ht (by omega) hk2 hr8 hrn
  refine ⟨fun hm => ?_, fun y hy hm => ?_, fun a ha hne y hy hm => ?_⟩
  · have e : x.held ++ locksF (S.N t) j.p (d + 1) = (x.held ++ locksF (S.N t) j.p d) ++ [S.N t (j.p + d)] := by simp [locksF]
    rw [e] at hnd
    have := (List.nodup_append.1 hnd).2.2 _ hm (S.N t (j.p + d)) (by simp)
    exact this rfl
  · rw [(h.rest hk ht hx y hy).1] at hm
    cases hm
  · cases hra : u.runs a with
    | nil => rw [hra] at hy; cases hy
    | cons z lz =>
      rw [hra] at hy
      rcases List.mem_cons.1 hy with rfl | hy'
      · rw [hrn] at hm
        have := (h.holds hs ho hk ha hra hr8).1 hm
        rcases hfree with g | g
        · omega
        · omega
      · rw [(h.rest hk ha hra y hy').1] at hm
        cases hm

theorem wi_idle {S : Sy} {m : Mc} {u : Wt} (h : WI S m u) : WI S { m with now := m.now + 1, idle := m.idle + 1 } (widle u) := by
  refine ⟨by show u.now + 1 = m.now + 1; rw [h.now], by show u.idle + 1 = m.idle + 1; rw [h.idle], h.len, h.jw, fun t x l j l' ht h1 h2 => ?_, h.tl, fun t x l ht h1 s hs => ?_, fun t y l ht h1 h2 => ?_, h.i1, h.i2⟩
  · rcases h.hd t x l j l' ht h1 h2 with g | g
    · exact .inl g
    · exact .inr (by show x.ready ≤ m.now + 1; omega)
  · have := h.old t x l ht h1 s hs
    exact ⟨this.1, by show s < m.now + 1; omega⟩
  · have := h.byr t y l ht h1 h2
    show y.ready < m.now + 1
    omega

theorem fairW_cons {S : Sy} {now : Int} {t a : Nat} {xg : Wr} {l : List Wr} {y : Wr} {r : List Wr} (h : fairW S now t xg a l = y :: r) : ∃ y0, l = y0 :: r ∧ y.ready = y0.ready ∧ y.held = y0.held ∧ y.since = y0.since ∧ y.step = y0.step ∧ y.left = y0.left ∧
    ((y0.ready ≤ now ∧ S.Z t < S.Z a ∧ y.bk = (t : Int) ∧ y.fr = sectOf S.C (S.Z a) xg.held xg.since) ∨ (¬ (y0.ready ≤ now ∧ S.Z t < S.Z a) ∧ y.bk = y0.bk ∧ y.fr = y0.fr)) := by
  unfold fairW at h
  cases l with
  | nil => cases h
  | cons y0 r0 =>
    simp only [] at h
    split at h
    · rename_i hc
      cases h
      exact ⟨y0, rfl, rfl, rfl, rfl, rfl, rfl, .inl ⟨hc.1, hc.2, rfl, rfl⟩⟩
    · rename_i hc
      cases h
      exact ⟨_, rfl, rfl, rfl, rfl, rfl, rfl, .inr ⟨hc, rfl, rfl⟩⟩

theorem fairW_len (S : Sy) (now : Int) (t a : Nat) (xg : Wr) (l : List Wr) : (fairW S now t xg a l).length = l.length := by
  unfold fairW
  cases l with
  | nil => rfl
  | cons y r => simp only []; split <;> rfl

theorem fairW_get {S : Sy} {now : Int} {t a : Nat} {xg : Wr} {l : List Wr} {i : Nat} {y : Wr} (h : (fairW S now t xg a l)[i]? = some y) : ∃ y0, l[i]? = some y0 ∧ y.ready = y0.ready ∧ y.held = y0.held ∧ y.since = y0.since ∧ y.step = y0.step ∧ y.left = y0.left ∧ (1 ≤ i → y = y0) := by
  unfold fairW at h
  cases l with
  | nil => simp at h
  | cons y0 r =>
    simp only [] at h
    cases i with
    | zero =>
      split at h
      · simp at h; subst h; exact ⟨y0, rfl, rfl, rfl, rfl, rfl, rfl, fun g => by omega⟩
      · simp at h; subst h; exact ⟨y0, rfl, rfl, rfl, rfl, rfl, rfl, fun _ => rfl⟩
    | succ i =>
      split at h
      · exact ⟨y, by simpa using h, rfl, rfl, rfl, rfl, rfl, fun _ => rfl⟩
      · exact ⟨y, by simpa using h, rfl, rfl, rfl, rfl, rfl, fun _ => rfl⟩

end Go.Proofs.YtdabcflpcklfiaaGreat.Cad

/- Plain mathematics: the law's runs stay beside the jobs, behind a tick and behind an arrival. -/
namespace Go.Proofs.YtdabcflpcklfiaaGreat.Cad

theorem JW.congr {S : Sy} {t : Nat} {x y : Wr} {j : Jb} (h : JW S t x j) (h1 : y.step = x.step) (h2 : y.left = x.left) (h3 : y.held = x.held) (h4 : y.since = x.since) (h5 : x.ready ≤ y.ready) : JW S t y j :=
  ⟨h1.trans h.step, h2.trans h.left, by rw [h3]; exact h.held, by rw [h3, h4]; exact h.len, by have := h.ready; omega⟩

theorem wakeW_cons {now : Int} {l : List Wr} {y : Wr} {r : List Wr} (h : wakeW now l = y :: r) : ∃ y0, l = y0 :: r ∧ y.held = y0.held ∧ y.since = y0.since ∧ y.step = y0.step ∧ y.left = y0.left ∧ y.bk = y0.bk ∧ y.fr = y0.fr ∧ y0.ready ≤ y.ready ∧ now ≤ y.ready ∧ (y.ready = now ∨ y.ready = y0.ready) := by
  unfold wakeW at h
  cases l with
  | nil => cases h
  | cons y0 r0 =>
    simp only [] at h
    split at h
    · rename_i hc
      cases h
      exact ⟨y0, rfl, rfl, rfl, rfl, rfl, rfl, rfl, by show y0.ready ≤ now; omega, by show now ≤ now; omega, .inl rfl⟩
    · rename_i hc
      cases h
      exact ⟨_, rfl, rfl, rfl, rfl, rfl, rfl, rfl, Int.le_refl _, by omega, .inr rfl⟩

theorem wakeW_len (now : Int) (l : List Wr) : (wakeW now l).length = l.length := by
  unfold wakeW
  cases l with
  | nil => rfl
  | cons y r => rfl

theorem wakeW_get {now : Int} {l : List Wr} {i : Nat} {y : Wr} (h : (wakeW now l)[i]? = some y) : ∃ y0, l[i]? = some y0 ∧ y.held = y0.held ∧ y.since = y0.since ∧ y.step = y0.step ∧ y.left = y0.left ∧ y0.ready ≤ y.ready := by
  cases l with
  | nil => simp [wakeW] at h
  | cons y0 r =>
    cases i with
    | zero =>
      simp only [wakeW, List.getElem?_cons_zero, Option.some.injEq] at h
      split at h
      · rename_i hc; subst h; exact ⟨y0, rfl, rfl, rfl, rfl, rfl, by show y0.ready ≤ now; omega⟩
      · subst h; exact ⟨y0, rfl, rfl, rfl, rfl, rfl, Int.le_refl _⟩
    | succ i =>
      simp only [wakeW, List.getElem?_cons_succ] at h
      exact ⟨y, by simpa using h, rfl, rfl, rfl, rfl, Int.le_refl _⟩

theorem cut_get {α : Type} {l : List α} {d i : Nat} {x : α} (h : (cutN l d)[i]? = some x) : l[i]? = some x ∧ i < l.length - d := by
  unfold cutN at h
  rw [List.getElem?_take] at h
  split at h
  · exact ⟨h, by omega⟩
  · cases h

theorem get_cut {α : Type} {l : List α} {d i : Nat} (h : i < l.length - d) : (cutN l d)[i]? = l[i]? := by
  unfold cutN
  rw [List.getElem?_take, if_pos h]

/-- What is the tick's own, whichever way it comes out. -/
structure TickRun (S : Sy) (m : Mc) (t : Nat) (x x2 : Wr) (l : List Wr) (j j2 : Jb) (lq : List Jb) (q' : Nat → List Jb) (runs' : Nat → List Wr) (dn : Bool) : Prop where
  jw : JW S t x2 j2
  ready : x2.ready = x.ready
  bk : x2.bk = x.bk
  fr : x2.fr = x.fr
  cut : ∃ d, x2.held = cutN (goesW S t m.now x).held d ∧ x2.since = cutN (goesW S t m.now x).since d
  rel : j2.rel = j.rel
  way : (dn = false ∧ q' t = j2 :: lq ∧ runs' t = x2 :: l) ∨ (dn = true ∧ q' t = lq ∧ runs' t = wakeW (m.now + 1) l)

set_option maxHeartbeats 1000000 in
theorem wi_tickRun {S : Sy} {m m' : Mc} {u u' : Wt} (hs : SyOk S) (ho : Ok S m) (hk : LkInv S m) (h : WI S m u) {t : Nat} (hc : (chTo S m S.n).1 = (t : Int)) (ht : t < S.n) {x x2 : Wr} {l : List Wr} {j j2 : Jb} {lq : List Jb} (hq : m.q t = j :: lq) (hx : u.runs t = x :: l) {dn : Bool}
    (hr : TickRun S m t x x2 l j j2 lq m'.q u'.runs dn) (n1 : m'.now = m.now + 1) (n2 : m'.idle = m.idle) (n3 : u'.now = u.now + 1) (n4 : u'.idle = u.idle) (hQ : ∀ a, a ≠ t → m'.q a = m.q a) (hR : ∀ a, a ≠ t → u'.runs a = fairW S m.now t (goesW S t m.now x) a (u.runs a)) : WI S m' u' := by
  have hjx := (h.kern ht hx)
  obtain ⟨j', lq', hq', hjw, hll⟩ := hjx
  rw [hq] at hq'
  cases hq'
  have hnow := h.now
  have h0 := ho.now0
  obtain ⟨d, hcut1, hcut2⟩ := hr.cut
  have hlen2 : (goesW S t m.now x).since.length = (goesW S t m.now x).held.length := (goes_held (now := m.now) (hs.prog t ht) (ho.job t ht j (by rw [hq]; simp)).1 hjw).2.1
  have hgh : (goesW S t m.now x).held = x.held ++ locksF (S.N t) x.step (skip (S.K t) 2 (S.L t) x.step - x.step) := rfl
  have hgs : (goesW S t m.now x).since = x.since ++ List.replicate (skip (S.K t) 2 (S.L t) x.step - x.step) m.now := rfl
  have hfair : ∀ a y l', a < S.n → u.runs a = y :: l' → y.ready ≤ m.now → S.Z t < S.Z a → _ := fun a y l' ha hy hry hz => fair_ok hs ho hk h hc ht hx ha hy (by rw [hnow]; exact hry) hz
  rw [hnow] at hfair
  refine ⟨by rw [n3, n1, hnow], by rw [n4, n2, h.idle], fun a ha => ?_, fun a ha i y jy hy hjy => ?_, fun a y ly jy ljy ha hy hjy => ?_, fun a y ly ha hy i z jz hz hjz => ?_, fun a y ly ha hy s hsm => ?_, fun a y ly ha hy hb => ?_, fun a xa la b y lb ha hb hz hxa hy i s hsi hle => ?_, fun b y lb a xa la hb ha hz hy hbk hxa hs0 hslt => ?_⟩
  · by_cases e : a = t
    · subst e
      rcases hr.way with ⟨_, w1, w2⟩ | ⟨_, w1, w2⟩
      · rw [w1, w2]; simp [hll]
      · rw [w1, w2, wakeW_len]; exact hll
    · rw [hQ a e, hR a e, fairW_len]; exact h.len a ha
  · by_cases e : a = t
    · subst e
      rcases hr.way with ⟨_, w1, w2⟩ | ⟨_, w1, w2⟩
      · rw [w1] at hjy; rw [w2] at hy
        cases i with
        | zero => simp at hy hjy; subst hy; subst hjy; exact hr.jw
        | succ i => exact h.jw a ha (i + 1) y jy (by rw [hx]; simpa using hy) (by rw [hq]; simpa using hjy)
      · rw [w1] at hjy; rw [w2] at hy
        obtain ⟨y0, g1, g2, g3, g4, g5, g6⟩ := wakeW_get hy
        exact (h.jw a ha (i + 1) y0 jy (by rw [hx]; simpa using g1) (by rw [hq]; simpa using hjy)).congr g4 g5 g2 g3 g6
    · rw [hQ a e] at hjy; rw [hR a e] at hy
      obtain ⟨y0, g1, g2, g3, g4, g5, g6, _⟩ := fairW_get hy
      exact (h.jw a ha i y0 jy g1 hjy).congr g5 g6 g3 g4 (by rw [g2]; exact Int.le_refl _)
  · rw [n1]
    by_cases e : a = t
    · subst e
      rcases hr.way with ⟨_, w1, w2⟩ | ⟨_, w1, w2⟩
      · rw [w1] at hjy; rw [w2] at hy
        cases hjy; cases hy
        rw [hr.ready, hr.rel]
        rcases h.hd a x l j lq ha hx hq with g | g
        · exact .inl g
        · exact .inr (by omega)
      · rw [w1] at hjy; rw [w2] at hy
        obtain ⟨y0, g1, g2, g3, g4, g5, g6, g7, g8, g9, g10⟩ := wakeW_cons hy
        have := h.tl a x l ha hx 0 y0 jy (by rw [g1]; rfl) (by rw [hq, hjy]; rfl)
        rcases g10 with g | g
        · exact .inr (by omega)
        · exact .inl (by rw [g]; exact this.2)
    · rw [hQ a e] at hjy; rw [hR a e] at hy
      obtain ⟨y0, g1, g2, _⟩ := fairW_cons hy
      rw [g2]
      rcases h.hd a y0 ly jy ljy ha g1 hjy with g | g
      · exact .inl g
      · exact .inr (by omega)
  · by_cases e : a = t
    · subst e
      rcases hr.way with ⟨_, w1, w2⟩ | ⟨_, w1, w2⟩
      · rw [w1] at hjz; rw [w2] at hy
        cases hy
        exact h.tl a x l ha hx i z jz hz (by rw [hq]; simpa using hjz)
      · rw [w1] at hjz; rw [w2] at hy
        obtain ⟨y0, g1, _⟩ := wakeW_cons hy
        exact h.tl a x l ha hx (i + 1) z jz (by rw [g1]; simpa using hz) (by rw [hq]; simpa using hjz)
    · rw [hQ a e] at hjz; rw [hR a e] at hy
      obtain ⟨y0, g1, _⟩ := fairW_cons hy
      exact h.tl a y0 ly ha g1 i z jz hz hjz
  · rw [n1]
    by_cases e : a = t
    · subst e
      rcases hr.way with ⟨_, w1, w2⟩ | ⟨_, w1, w2⟩
      · rw [w2] at hy
        cases hy
        rw [hcut2] at hsm
        unfold cutN at hsm
        have hm2 := List.mem_of_mem_take hsm
        rw [hgs] at hm2
        rcases List.mem_append.1 hm2 with g | g
        · have := h.old a x l ha hx s g; omega
        · have := List.eq_of_mem_replicate g; omega
      · rw [w2] at hy
        obtain ⟨y0, g1, g2, g3, _⟩ := wakeW_cons hy
        have := (h.rest hk ha hx y0 (by rw [g1]; simp)).2
        rw [g3, this] at hsm
        cases hsm
    · rw [hR a e] at hy
      obtain ⟨y0, g1, g2, g3, g4, _⟩ := fairW_cons hy
      rw [g4] at hsm
      have := h.old a y0 ly ha g1 s hsm
      omega
  · rw [n1]
    by_cases e : a = t
    · subst e
      rcases hr.way with ⟨_, w1, w2⟩ | ⟨_, w1, w2⟩
      · rw [w2] at hy
        cases hy
        rw [hr.bk] at hb
        rw [hr.ready]
        have := h.byr a x l ha hx hb; omega
      · rw [w2] at hy
        obtain ⟨y0, g1, g2, g3, g4, g5, g6, _⟩ := wakeW_cons hy
        cases hlq : lq with
        | nil => rw [hlq, g1] at hll; simp at hll
        | cons jn ln =>
          have := h.tl a x l ha hx 0 y0 jn (by rw [g1]; rfl) (by rw [hq, hlq]; rfl)
          rw [g6] at hb; omega
    · rw [hR a e] at hy
      obtain ⟨y0, g1, g2, g3, g4, g5, g6, g7⟩ := fairW_cons hy
      rw [g2]
      rcases g7 with ⟨k1, k2, k3, k4⟩ | ⟨k1, k2, k3⟩
      · omega
      · rw [k2] at hb
        have := h.byr a y0 ly ha g1 hb; omega
  · -- i1
    by_cases ea : a = t
    · subst ea
      have eb : b ≠ a := fun e => by rw [e] at hz; omega
      rw [hR b eb] at hy
      obtain ⟨y0, g1, g2, _⟩ := fairW_cons hy
      rw [g2] at hle
      rcases hr.way with ⟨_, w1, w2⟩ | ⟨_, w1, w2⟩
      · rw [w2] at hxa
        cases hxa
        rw [hcut2] at hsi
        obtain ⟨c1, c2⟩ := cut_get hsi
        rw [hgs] at c1
        by_cases hi : i < x.since.length
        · rw [List.getElem?_append_left hi] at c1
          obtain ⟨i', r', k1, k2, k3⟩ := h.i1 a x _ b y0 lb ha hb hz hx g1 i s c1 hle
          refine ⟨i', r', k1, ?_, k3⟩
          rw [hcut1, get_cut (by rw [hlen2] at c2; omega), hgh, List.getElem?_append_left (by rw [← hjw.len]; omega)]
          exact k2
        · have hsn : s = m.now := by
            rw [List.getElem?_append_right (by omega)] at c1
            exact List.eq_of_mem_replicate (List.mem_of_getElem? c1)
          obtain ⟨⟨r, hrm, hrc⟩, _⟩ := hfair b y0 lb hb g1 (by omega) hz
          obtain ⟨i', hi', hri'⟩ := List.getElem_of_mem hrm
          have hl2 := hjw.len
          refine ⟨i', r, by omega, ?_, hrc⟩
          rw [hcut1, get_cut (by rw [hlen2] at c2; omega), hgh, List.getElem?_append_left hi', List.getElem?_eq_getElem hi', hri']
      · rw [w2] at hxa
        obtain ⟨y1, k1, k2, k3, _⟩ := wakeW_cons hxa
        have := (h.rest hk ha hx y1 (by rw [k1]; simp)).2
        rw [k3, this] at hsi
        simp at hsi
    · rw [hR a ea] at hxa
      obtain ⟨xa0, g1, g2, g3, g4, _⟩ := fairW_cons hxa
      rw [g4] at hsi
      rw [g3]
      by_cases eb : b = t
      · subst eb
        rcases hr.way with ⟨_, w1, w2⟩ | ⟨_, w1, w2⟩
        · rw [w2] at hy
          cases hy
          rw [hr.ready] at hle
          exact h.i1 a xa0 la b x _ ha hb hz g1 hx i s hsi hle
        · rw [w2] at hy
          obtain ⟨y1, k1, k2, k3, k4, k5, k6, k7, k8, k9, _⟩ := wakeW_cons hy
          have := h.old a xa0 la ha g1 s (List.mem_of_getElem? hsi)
          omega
      · rw [hR b eb] at hy
        obtain ⟨y0, k1, k2, _⟩ := fairW_cons hy
        rw [k2] at hle
        exact h.i1 a xa0 la b y0 lb ha hb hz g1 k1 i s hsi hle
  · -- i2
    by_cases eb : b = t
    · subst eb
      have ea : a ≠ b := fun e => by rw [e] at hz; omega
      rw [hR a ea] at hxa
      obtain ⟨xa0, g1, g2, g3, g4, _⟩ := fairW_cons hxa
      rw [g3, g4] at hs0 hslt ⊢
      rcases hr.way with ⟨_, w1, w2⟩ | ⟨_, w1, w2⟩
      · rw [w2] at hy
        cases hy
        rw [hr.bk] at hbk ⊢
        rw [hr.ready] at hslt
        rw [hr.fr]
        exact h.i2 b x l a xa0 la hb ha hz hx hbk g1 hs0 hslt
      · rw [w2] at hy
        obtain ⟨y1, k1, k2, k3, k4, k5, k6, _⟩ := wakeW_cons hy
        cases hlq : lq with
        | nil => rw [hlq, k1] at hll; simp at hll
        | cons jn ln =>
          have := h.tl b x l hb hx 0 y1 jn (by rw [k1]; rfl) (by rw [hq, hlq]; rfl)
          rw [k6] at hbk; omega
    · rw [hR b eb] at hy
      obtain ⟨y0, k1, k2, k3, k4, k5, k6, k7⟩ := fairW_cons hy
      rw [k2] at hslt
      by_cases ea : a = t
      · subst ea
        rcases hr.way with ⟨_, w1, w2⟩ | ⟨_, w1, w2⟩
        · rw [w2] at hxa
          cases hxa
          rw [hcut1, hcut2] at hs0 hslt ⊢
          have hse := sect_cut hlen2 hs0
          rcases k7 with ⟨q1, q2, q3, q4⟩ | ⟨q1, q2, q3⟩
          · exact ⟨q3.symm, by rw [q4]; exact hse⟩
          · exfalso
            rw [q2] at hbk
            have := h.byr b y0 lb hb k1 hbk
            exact q1 ⟨by omega, hz⟩
        · rw [w2] at hxa
          obtain ⟨y1, g1, g2, g3, _⟩ := wakeW_cons hxa
          have := (h.rest hk ha hx y1 (by rw [g1]; simp)).1
          rw [g2, this] at hs0
          simp [sectOf] at hs0
      · rw [hR a ea] at hxa
        obtain ⟨xa0, g1, g2, g3, g4, _⟩ := fairW_cons hxa
        rw [g3, g4] at hs0 hslt ⊢
        rcases k7 with ⟨q1, q2, q3, q4⟩ | ⟨q1, q2, q3⟩
        · exfalso
          obtain ⟨⟨r, hrm, hrc⟩, _⟩ := hfair b y0 lb hb k1 q1 q2
          obtain ⟨r2, hrm2, hrc2⟩ := sect_ex hs0
          obtain ⟨n1', hn1, e1⟩ := h.res ht hx r hrm
          obtain ⟨n2', hn2, e2⟩ := h.res ha g1 r2 hrm2
          subst e1; subst e2
          have w1 := (h.holds hs ho hk ht hx hn1).1 hrm
          have w2 := (h.holds hs ho hk ha g1 hn2).1 hrm2
          exact ea (one_ahead hk ha ht hz q2 hn2 hn1 w2 w1 (by simpa using hrc2) (by simpa using hrc))
        · rw [q2] at hbk ⊢
          rw [q3]
          exact h.i2 b y0 lb a xa0 la hb ha hz k1 hbk g1 hs0 hslt

end Go.Proofs.YtdabcflpcklfiaaGreat.Cad

/- Plain mathematics: a whole tick, and an arrival. -/
namespace Go.Proofs.YtdabcflpcklfiaaGreat.Cad

theorem wi_tick {S : Sy} {m : Mc} {u : Wt} (hs : SyOk S) (ho : Ok S m) (hk : LkInv S m) (h : WI S m u) {t : Nat} (hc : (chTo S m S.n).1 = (t : Int)) (ht : t < S.n) {x : Wr} {l : List Wr} {j : Jb} {lq : List Jb} (hq : m.q t = j :: lq) (hx : u.runs t = x :: l) :
    WI S (tickAt S m t j lq).1 (wtick S u t x l) ∧ (tickAt S m t j lq).2 = decide ((endW S t (goesW S t u.now x)).left = []) := by
  have hnow := h.now
  obtain ⟨j', lq', hq', hjw, _⟩ := h.kern ht hx
  rw [hq] at hq'
  cases hq'
  have hjo := (ho.job t ht j (by rw [hq]; simp)).1
  obtain ⟨e1, e2, e3, e4, e5, e6⟩ := jw_tick (now := u.now) (hh := m.hold) (hs.prog t ht) hjo hjw
  have hrk := runK_ok (t := t) (h := m.hold) hjo
  have hrel : (runK (S.K t) (S.L t) t m.hold j).2.rel = j.rel := hrk.2.2.2.2.1
  by_cases hp : (runK (S.K t) (S.L t) t m.hold j).2.p < S.L t
  · have hne : ¬ (endW S t (goesW S t u.now x)).left = [] := fun g => (e2.1 g) hp
    have hT : tickAt S m t j lq = ({ m with now := m.now + 1, hold := (runJ S t m.hold j).1, q := upd m.q t ((runJ S t m.hold j).2 :: lq) }, false) := by
      unfold tickAt
      simp only []
      exact if_pos hp
    rw [hT]
    refine ⟨?_, by simp [hne]⟩
    refine wi_tickRun (x2 := endW S t (goesW S t u.now x)) (j2 := (runK (S.K t) (S.L t) t m.hold j).2) (dn := false) hs ho hk h hc ht hq hx ⟨e1, e4, e5, e6, by rw [← hnow]; exact e3, hrel, .inl ⟨rfl, upd_same _ _ _, ?_⟩⟩ rfl rfl rfl rfl (fun a ha => upd_other _ _ ha) (fun a ha => ?_)
    · show (if t = t then _ else _) = _
      rw [if_pos rfl, if_neg hne]
    · show (if a = t then _ else _) = _
      rw [if_neg ha, hnow]
  · have hne : (endW S t (goesW S t u.now x)).left = [] := e2.2 hp
    have hT : tickAt S m t j lq = ({ m with now := m.now + 1, hold := (runJ S t m.hold j).1, q := upd m.q t lq, done := upd m.done t (m.done t + 1), kept := keep m.kept ⟨t, j.arr, j.rel, m.now + 1, (runJ S t m.hold j).2.left, j.ord⟩ }, true) := by
      unfold tickAt
      simp only []
      exact if_neg hp
    rw [hT]
    refine ⟨?_, by simp [hne]⟩
    refine wi_tickRun (x2 := endW S t (goesW S t u.now x)) (j2 := (runK (S.K t) (S.L t) t m.hold j).2) (dn := true) hs ho hk h hc ht hq hx ⟨e1, e4, e5, e6, by rw [← hnow]; exact e3, hrel, .inr ⟨rfl, upd_same _ _ _, ?_⟩⟩ rfl rfl rfl rfl (fun a ha => upd_other _ _ ha) (fun a ha => ?_)
    · show (if t = t then _ else _) = _
      rw [if_pos rfl, if_pos hne, hnow]
    · show (if a = t then _ else _) = _
      rw [if_neg ha, hnow]

theorem cons_snoc {α : Type} {l : List α} {z x : α} {r : List α} (h : l ++ [z] = x :: r) : (l = [] ∧ x = z ∧ r = []) ∨ ∃ r0, l = x :: r0 ∧ r = r0 ++ [z] := by
  cases l with
  | nil => simp at h; exact .inl ⟨rfl, h.1.symm, h.2⟩
  | cons a l0 => simp at h; exact .inr ⟨l0, by rw [h.1], h.2.symm⟩

theorem wi_arr {S : Sy} {m : Mc} {u : Wt} (h : WI S m u) {t : Nat} (ht : t < S.n) {jit : Int} {l : List Int} (hj0 : 0 ≤ jit) (hl : l.length = cmpTo (S.K t) (S.L t)) : WI S (added S m t jit (fun q => l.getD q 0)) (warr u t jit l) := by
  have hnow := h.now
  have hnew : JW S t ⟨u.now + jit, l, 0, [], [], -1, 0⟩ (jobOf S m t jit (fun q => l.getD q 0)) := by
    refine ⟨rfl, ?_, rfl, rfl, ?_⟩
    · show l = cmpsFrom (S.K t) (numOf (S.K t) (S.N t) (fun q => l.getD q 0)) (S.L t) 0
      rw [cmps_new hl (S.L t) 0 (by omega)]
      rfl
    · show m.now + jit ≤ u.now + jit
      rw [hnow]; exact Int.le_refl _
  have hQt : (added S m t jit (fun q => l.getD q 0)).q t = m.q t ++ [jobOf S m t jit (fun q => l.getD q 0)] := upd_same _ _ _
  have hQ : ∀ a, a ≠ t → (added S m t jit (fun q => l.getD q 0)).q a = m.q a := fun a ha => upd_other _ _ ha
  have hRt : (warr u t jit l).runs t = u.runs t ++ [⟨u.now + jit, l, 0, [], [], -1, 0⟩] := upd_same _ _ _
  have hR : ∀ a, a ≠ t → (warr u t jit l).runs a = u.runs a := fun a ha => upd_other _ _ ha
  have hlen := h.len t ht
  have head : ∀ a x la, a < S.n → (warr u t jit l).runs a = x :: la → (∃ r0, u.runs a = x :: r0 ∧ (la = r0 ∨ a = t ∧ la = r0 ++ [⟨u.now + jit, l, 0, [], [], -1, 0⟩])) ∨ (a = t ∧ u.runs t = [] ∧ x = ⟨u.now + jit, l, 0, [], [], -1, 0⟩ ∧ la = []) := by
    intro a x la ha hx
    by_cases e : a = t
    · subst e
      rw [hRt] at hx
      rcases cons_snoc hx with ⟨g1, g2, g3⟩ | ⟨r0, g1, g2⟩
      · exact .inr ⟨rfl, g1, g2, g3⟩
      · exact .inl ⟨r0, g1, .inr ⟨rfl, g2⟩⟩
    · rw [hR a e] at hx
      exact .inl ⟨la, hx, .inl rfl⟩
  refine ⟨hnow, h.idle, fun a ha => ?_, fun a ha i y jy hy hjy => ?_, fun a y ly jy ljy ha hy hjy => ?_, fun a y ly ha hy i z jz hz hjz => ?_, fun a y ly ha hy s hsm => ?_, fun a y ly ha hy hb => ?_, fun a xa la b y lb ha hb hz hxa hy i s hsi hle => ?_, fun b y lb a xa la hb ha hz hy hbk hxa hs0 hslt => ?_⟩
  · by_cases e : a = t
    · subst e; rw [hQt, hRt, List.length_append, List.length_append, hlen]; rfl
    · rw [hQ a e, hR a e]; exact h.len a ha
  · by_cases e : a = t
    · subst e
      rw [hRt] at hy; rw [hQt] at hjy
      by_cases hi : i < (u.runs a).length
      · rw [List.getElem?_append_left hi] at hy
        rw [List.getElem?_append_left (by omega)] at hjy
        exact h.jw a ha i y jy hy hjy
      · rw [List.getElem?_append_right (by omega)] at hy
        rw [List.getElem?_append_right (by omega)] at hjy
        rw [hlen] at hy
        cases hd : i - (m.q a).length with
        | zero => rw [hd] at hy hjy; simp at hy hjy; subst hy; subst hjy; exact hnew
        | succ k => rw [hd] at hy; simp at hy
    · rw [hR a e] at hy; rw [hQ a e] at hjy
      exact h.jw a ha i y jy hy hjy
  · show y.ready = jy.rel ∨ y.ready ≤ m.now
    rcases head a y ly ha hy with ⟨r0, g1, _⟩ | ⟨rfl, g1, g2, g3⟩
    · obtain ⟨j0, lq0, hq0, _⟩ := h.kern ha g1
      have hje : jy = j0 := by
        by_cases e : a = t
        · subst e; rw [hQt, hq0] at hjy; simp at hjy; exact hjy.1.symm
        · rw [hQ a e, hq0] at hjy; cases hjy; rfl
      rw [hje]
      exact h.hd a y r0 j0 lq0 ha g1 hq0
    · left
      have : m.q a = [] := List.length_eq_zero_iff.1 (by rw [← hlen, g1]; rfl)
      rw [hQt, this] at hjy
      simp at hjy
      rw [← hjy.1, g2]
      show u.now + jit = m.now + jit
      rw [hnow]
  · rcases head a y ly ha hy with ⟨r0, g1, g2⟩ | ⟨rfl, g1, g2, g3⟩
    · obtain ⟨j0, lq0, hq0, _, hll⟩ := h.kern ha g1
      rcases g2 with g2 | ⟨e, g2⟩
      · by_cases e : a = t
        · subst e
          rw [hRt, g1] at hy
          simp at hy
          rw [← hy] at g2
          simp at g2
        · rw [hQ a e] at hjz
          rw [g2] at hz
          exact h.tl a y r0 ha g1 i z jz hz hjz
      · subst e
        rw [hQt, hq0] at hjz
        rw [g2] at hz
        by_cases hi : i < r0.length
        · rw [List.getElem?_append_left hi] at hz
          rw [List.getElem?_append_left (by simp; omega)] at hjz
          exact h.tl a y r0 ha g1 i z jz hz (by rw [hq0]; exact hjz)
        · rw [List.getElem?_append_right (by omega)] at hz
          rw [List.getElem?_append_right (by simp; omega)] at hjz
          have e2 : i + 1 - (j0 :: lq0).length = i - r0.length := by simp; omega
          rw [e2] at hjz
          cases hd : i - r0.length with
          | zero =>
            rw [hd] at hz hjz
            simp at hz hjz
            subst hz; subst hjz
            exact ⟨rfl, by show u.now + jit = m.now + jit; rw [hnow]⟩
          | succ k => rw [hd] at hz; simp at hz
    · rw [g3] at hz; simp at hz
  · show 0 ≤ s ∧ s < m.now
    rcases head a y ly ha hy with ⟨r0, g1, _⟩ | ⟨rfl, g1, g2, g3⟩
    · exact h.old a y r0 ha g1 s hsm
    · rw [g2] at hsm; cases hsm
  · show y.ready < m.now
    rcases head a y ly ha hy with ⟨r0, g1, _⟩ | ⟨rfl, g1, g2, g3⟩
    · exact h.byr a y r0 ha g1 hb
    · rw [g2] at hb
      have : (0 : Int) ≤ -1 := hb
      omega
  · rcases head a xa la ha hxa with ⟨r0, g1, _⟩ | ⟨rfl, g1, g2, g3⟩
    · rcases head b y lb hb hy with ⟨r1, k1, _⟩ | ⟨rfl, k1, k2, k3⟩
      · exact h.i1 a xa r0 b y r1 ha hb hz g1 k1 i s hsi hle
      · exfalso
        have h1 := h.old a xa r0 ha g1 s (List.mem_of_getElem? hsi)
        rw [k2] at hle
        have : u.now + jit ≤ s := hle
        omega
    · rw [g2] at hsi; simp at hsi
  · rcases head b y lb hb hy with ⟨r1, k1, _⟩ | ⟨rfl, k1, k2, k3⟩
    · rcases head a xa la ha hxa with ⟨r0, g1, _⟩ | ⟨rfl, g1, g2, g3⟩
      · exact h.i2 b y r1 a xa r0 hb ha hz k1 hbk g1 hs0 hslt
      · rw [g2] at hs0
        simp [sectOf] at hs0
    · rw [k2] at hbk
      have : (0 : Int) ≤ -1 := hbk
      omega

end Go.Proofs.YtdabcflpcklfiaaGreat.Cad

/- What was asked for is what was given and what is left. -/
namespace Go.Proofs.YtdabcflpcklfiaaGreat.Cad

def leftQ : List Jb → Int
  | [] => 0
  | j :: l => j.left + leftQ l

def leftTo (m : Mc) : Nat → Int
  | 0 => 0
  | k + 1 => leftTo m k + leftQ (m.q k)

/-- The law's numbers beside the kernel's jobs. -/
structure CN (S : Sy) (m : Mc) (u : Wt) : Prop where
  given : u.given = u.now - u.idle
  asked : u.asked = u.given + leftTo m S.n

theorem leftTo_congr {m m' : Mc} : ∀ k, (∀ a, a < k → m'.q a = m.q a) → leftTo m' k = leftTo m k
  | 0, _ => rfl
  | k + 1, h => by
    show leftTo m' k + leftQ (m'.q k) = leftTo m k + leftQ (m.q k)
    rw [leftTo_congr k (fun a ha => h a (by omega)), h k (by omega)]

theorem leftTo_upd {m m' : Mc} {t : Nat} {c : Int} (ho : ∀ a, a ≠ t → m'.q a = m.q a) (ht : leftQ (m'.q t) = leftQ (m.q t) + c) : ∀ k, leftTo m' k = leftTo m k + if t < k then c else 0
  | 0 => by simp [leftTo]
  | k + 1 => by
    show leftTo m' k + leftQ (m'.q k) = leftTo m k + leftQ (m.q k) + _
    rw [leftTo_upd ho ht k]
    by_cases e : k = t
    · subst e
      rw [ht, if_neg (by omega), if_pos (by omega)]
      omega
    · rw [ho k e]
      by_cases g : t < k
      · rw [if_pos g, if_pos (by omega)]
        omega
      · rw [if_neg g, if_neg (by omega)]
        omega

theorem runJ_left (S : Sy) (t : Nat) (h : Nat → Int) (j : Jb) : (runJ S t h j).2.left = j.left - 1 := by
  unfold runJ runK
  simp only []
  split <;> rfl

theorem left_tick {S : Sy} {m : Mc} (ho : Ok S m) {t : Nat} {j : Jb} {r : List Jb} (ht : t < S.n) (hq : m.q t = j :: r) : leftTo (tickAt S m t j r).1 S.n = leftTo m S.n - 1 := by
  have hl := runJ_left S t m.hold j
  have hk := runK_ok (t := t) (h := m.hold) (ho.job t ht j (by rw [hq]; simp)).1
  have key : ∀ m' : Mc, (∀ a, a ≠ t → m'.q a = m.q a) → leftQ (m'.q t) = leftQ (m.q t) + -1 → leftTo m' S.n = leftTo m S.n - 1 := by
    intro m' h1 h2
    rw [leftTo_upd h1 h2 S.n, if_pos ht]
    omega
  have e0 : leftQ (m.q t) = j.left + leftQ r := by rw [hq]; rfl
  unfold tickAt
  simp only []
  split
  · refine key _ (fun a ha => upd_other _ _ ha) ?_
    show leftQ (upd m.q t ((runJ S t m.hold j).2 :: r) t) = _
    rw [upd_same, e0]
    show (runJ S t m.hold j).2.left + leftQ r = _
    rw [hl]
    omega
  · rename_i hp
    refine key _ (fun a ha => upd_other _ _ ha) ?_
    show leftQ (upd m.q t r t) = _
    rw [upd_same, e0]
    have h1 : (runK (S.K t) (S.L t) t m.hold j).2.p ≤ S.L t := hk.1
    have h2 : ¬ (runK (S.K t) (S.L t) t m.hold j).2.p < S.L t := hp
    have h3 : (runK (S.K t) (S.L t) t m.hold j).2.left = 0 := hk.2.2.1 (by omega)
    have h4 : (runK (S.K t) (S.L t) t m.hold j).2.left = j.left - 1 := hl
    omega

/-- A tick that nobody has. -/
theorem cn_idle {S : Sy} {m : Mc} {u u' : Wt} (h : CN S m u) (h1 : u'.now = u.now + 1) (h2 : u'.idle = u.idle + 1) (h3 : u'.given = u.given) (h4 : u'.asked = u.asked) : CN S { m with now := m.now + 1, idle := m.idle + 1 } u' where
  given := by have := h.given; omega
  asked := by
    have := h.asked
    rw [leftTo_congr (m := m) (m' := { m with now := m.now + 1, idle := m.idle + 1 }) S.n (fun _ _ => rfl)]
    omega

/-- A tick that a job has. -/
theorem cn_tick {S : Sy} {m : Mc} {u u' : Wt} (ho : Ok S m) (h : CN S m u) {t : Nat} {j : Jb} {r : List Jb} (ht : t < S.n) (hq : m.q t = j :: r) (h1 : u'.now = u.now + 1) (h2 : u'.idle = u.idle) (h3 : u'.given = u.given + 1) (h4 : u'.asked = u.asked) : CN S (tickAt S m t j r).1 u' where
  given := by have := h.given; omega
  asked := by
    have := h.asked
    rw [left_tick ho ht hq]
    omega

theorem left_start : ∀ k, leftTo start k = 0
  | 0 => rfl
  | k + 1 => by
    show leftTo start k + 0 = 0
    rw [left_start k]; rfl

theorem cn_start (S : Sy) : CN S start wstart where
  given := rfl
  asked := by rw [left_start]; rfl

theorem leftQ_snoc (l : List Jb) (j : Jb) : leftQ (l ++ [j]) = leftQ l + j.left := by
  induction l with
  | nil => show j.left + 0 = 0 + j.left; omega
  | cons a r ih =>
    show a.left + leftQ (r ++ [j]) = a.left + leftQ r + j.left
    rw [ih]; omega

/-- A job more. -/
theorem cn_added {S : Sy} {m : Mc} {u u' : Wt} (h : CN S m u) {t : Nat} (ht : t < S.n) {jit : Int} {D : Nat → Int} (h1 : u'.now = u.now) (h2 : u'.idle = u.idle) (h3 : u'.given = u.given) (h4 : u'.asked = u.asked + (jobOf S m t jit D).left) : CN S (added S m t jit D) u' where
  given := by have := h.given; omega
  asked := by
    have := h.asked
    rw [leftTo_upd (m := m) (m' := added S m t jit D) (t := t) (c := (jobOf S m t jit D).left) (fun a ha => upd_other _ _ ha) (by
      show leftQ (upd m.q t (m.q t ++ [jobOf S m t jit D]) t) = _
      rw [upd_same, leftQ_snoc]) S.n, if_pos ht]
    omega

theorem leftQ_range {S : Sy} {m : Mc} (ho : Ok S m) {t : Nat} (ht : t < S.n) : ∀ (l : List Jb), (∀ j ∈ l, j ∈ m.q t) → 0 ≤ leftQ l ∧ leftQ l ≤ 1600 * (l.length : Int)
  | [], _ => ⟨Int.le_refl _, Int.le_refl _⟩
  | j :: l, h => by
    have ih := leftQ_range ho ht l (fun x hx => h x (List.mem_cons_of_mem _ hx))
    have hj := (ho.job t ht j (h j (by simp))).1.left_range (ho.len t ht).2
    show 0 ≤ j.left + leftQ l ∧ j.left + leftQ l ≤ 1600 * (((l.length + 1 : Nat)) : Int)
    omega

theorem leftTo_range {S : Sy} {m : Mc} (ho : Ok S m) : ∀ k, k ≤ S.n → 0 ≤ leftTo m k ∧ leftTo m k ≤ 12800 * (k : Int)
  | 0, _ => ⟨Int.le_refl _, Int.le_refl _⟩
  | k + 1, hk => by
    have ih := leftTo_range ho k (by omega)
    have h1 := leftQ_range ho (t := k) (by omega) (m.q k) (fun _ h => h)
    have h2 := ho.few k (by omega)
    show 0 ≤ leftTo m k + leftQ (m.q k) ∧ leftTo m k + leftQ (m.q k) ≤ 12800 * ((k + 1 : Nat) : Int)
    omega

theorem sumL_snoc (a : List Int) (i : Nat) (hi : i < a.length) : sumL (a.take (i + 1)) = sumL (a.take i) + a.getD i 0 := by
  induction a generalizing i with
  | nil => cases hi
  | cons b r ih =>
    cases i with
    | zero => show b + 0 = 0 + b; omega
    | succ i =>
      have := ih i (by simpa using hi)
      show b + sumL (r.take (i + 1)) = b + sumL (r.take i) + r.getD i 0
      omega

/-- A new job's demand is what its list has. -/
theorem dem_new {K N : Nat → Int} {l : List Int} : ∀ L, cmpTo K L ≤ l.length → demTo K (numOf K N (fun q => l.getD q 0)) L = sumL (l.take (cmpTo K L))
  | 0, _ => rfl
  | L + 1, h => by
    by_cases e : K L = 1
    · have hc : cmpTo K (L + 1) = cmpTo K L + 1 := if_pos e
      rw [hc] at h ⊢
      have ih := dem_new (K := K) (N := N) (l := l) L (by omega)
      have hd : demTo K (numOf K N (fun q => l.getD q 0)) (L + 1) = demTo K (numOf K N (fun q => l.getD q 0)) L + numOf K N (fun q => l.getD q 0) L := by
        show _ + (if K L = 1 then _ else 0) = _
        rw [if_pos e]
      have hn : numOf K N (fun q => l.getD q 0) L = l.getD (cmpTo K L) 0 := if_pos e
      rw [hd, ih, hn]
      exact (sumL_snoc l _ (by omega)).symm
    · have hc : cmpTo K (L + 1) = cmpTo K L := if_neg e
      rw [hc] at h ⊢
      have hd : demTo K (numOf K N (fun q => l.getD q 0)) (L + 1) = demTo K (numOf K N (fun q => l.getD q 0)) L := by
        show _ + (if K L = 1 then _ else 0) = _
        rw [if_neg e, Int.add_zero]
      rw [hd]
      exact dem_new L h

end Go.Proofs.YtdabcflpcklfiaaGreat.Cad
