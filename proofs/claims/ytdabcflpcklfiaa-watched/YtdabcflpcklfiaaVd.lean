import Derived.Test.YtdabcflpcklfiaaVb
/- Plain mathematics: a tick, as the law goes along with it. -/
namespace Go.Proofs.Ytdabcflpcklfiaa.Cad

/-- Where a job comes to: to a Compute. -/
theorem place1 {K : Nat → Int} {L : Nat} {j : Jb} (hj : JbOk K L j) : j.p ≤ skip K 2 L j.p ∧ skip K 2 L j.p < L ∧ K (skip K 2 L j.p) = 1 ∧ ∀ i, j.p ≤ i → i < skip K 2 L j.p → K i = 2 := by
  have hlt := hj.lt
  obtain ⟨h1, h2, h3, h4⟩ := skip_spec K 2 (L := L) (p := j.p) (by omega)
  have hL : skip K 2 L j.p < L := by
    rcases Nat.lt_or_ge (skip K 2 L j.p) L with g | g
    · exact g
    · exfalso
      have := h3 (L - 1) (by omega) (by omega)
      rw [hj.last] at this
      omega
  refine ⟨h1, hL, ?_, h3⟩
  rcases hj.kind _ hL with g | g | g
  · exact g
  · exact absurd g (h4 hL)
  · exfalso
    by_cases e : skip K 2 L j.p = j.p
    · rw [e] at g; exact hj.here g
    · obtain ⟨q, hq⟩ : ∃ q, skip K 2 L j.p = q + 1 := ⟨skip K 2 L j.p - 1, by omega⟩
      have h5 := h3 q (by omega) (by omega)
      have h6 := hj.behind q (by omega) h5
      rw [hq] at g
      exact h6 g

theorem goes_held {S : Sy} {t : Nat} {x : Wr} {j : Jb} {now : Int} (hp : progB (S.K t) (S.N t) (S.L t) = true) (hj : JbOk (S.K t) (S.L t) j) (h : JW S t x j) :
    stTo (S.K t) (S.N t) (skip (S.K t) 2 (S.L t) j.p) = some (goesW S t now x).held ∧ (goesW S t now x).since.length = (goesW S t now x).held.length ∧ (goesW S t now x).step = skip (S.K t) 2 (S.L t) j.p ∧ (goesW S t now x).left = j.N (skip (S.K t) 2 (S.L t) j.p) :: cmpsFrom (S.K t) j.N (S.L t) (skip (S.K t) 2 (S.L t) j.p + 1) := by
  obtain ⟨p1, p2, p3, p4⟩ := place1 hj
  unfold goesW
  simp only [h.step]
  generalize skip (S.K t) 2 (S.L t) j.p = q at *
  refine ⟨?_, ?_, trivial, ?_⟩
  · have := st_locks hp h.held (q - j.p) (by omega) (fun i h1 h2 => p4 i h1 (by omega))
    rw [show j.p + (q - j.p) = q from by omega] at this
    exact this
  · rw [List.length_append, List.length_append, List.length_replicate, locksF_len, h.len]
  · rw [h.left, cmps_skip (q - j.p) j.p (by omega) (fun i h1 h2 => by rw [p4 i h1 (by omega)]; decide), show j.p + (q - j.p) = q from by omega]
    exact cmps_here p2 p3

/-- A run behind a tick is beside its job. -/
theorem jw_tick {S : Sy} {t : Nat} {x : Wr} {j : Jb} {now : Int} {hh : Nat → Int} (hp : progB (S.K t) (S.N t) (S.L t) = true) (hj : JbOk (S.K t) (S.L t) j) (h : JW S t x j) :
    JW S t (endW S t (goesW S t now x)) (runK (S.K t) (S.L t) t hh j).2 ∧ ((endW S t (goesW S t now x)).left = [] ↔ ¬ (runK (S.K t) (S.L t) t hh j).2.p < S.L t) ∧
    (∃ d, (endW S t (goesW S t now x)).held = cutN (goesW S t now x).held d ∧ (endW S t (goesW S t now x)).since = cutN (goesW S t now x).since d) ∧ (endW S t (goesW S t now x)).ready = x.ready ∧ (endW S t (goesW S t now x)).bk = x.bk ∧ (endW S t (goesW S t now x)).fr = x.fr := by
  obtain ⟨p1, p2, p3, p4⟩ := place1 hj
  obtain ⟨g1, g2, g3, g4⟩ := goes_held (now := now) hp hj h
  have hc := hj.comp _ p1 p2 p3
  have hr : (goesW S t now x).ready = x.ready ∧ (goesW S t now x).bk = x.bk ∧ (goesW S t now x).fr = x.fr := ⟨rfl, rfl, rfl⟩
  generalize goesW S t now x = xg at *
  unfold endW runK
  simp only [g4]
  generalize skip (S.K t) 2 (S.L t) j.p = q at *
  by_cases hz : 0 < j.N q - 1
  · rw [if_neg (show ¬ j.N q - 1 = 0 by omega), if_pos hz]
    refine ⟨⟨g3, ?_, g1, g2, by rw [hr.1]; exact h.ready⟩, ⟨fun e => (by cases e), fun e => absurd p2 e⟩, ⟨0, by simp [cutN], by simp [cutN]⟩, hr⟩
    show (j.N q - 1) :: _ = cmpsFrom (S.K t) (upd j.N q (j.N q - 1)) (S.L t) q
    rw [cmps_here p2 p3, upd_same]
    congr 1
    exact (cmps_congr (fun i h1 h2 h3 => upd_other _ _ (by omega))).symm
  · rw [if_pos (show j.N q - 1 = 0 by omega), if_neg hz]
    simp only [g3]
    obtain ⟨s1, s2, s3, s4⟩ := skip_spec (S.K t) 3 (L := S.L t) (p := q + 1) (by omega)
    have hst := st_comp hp g1 p2 p3
    generalize skip (S.K t) 3 (S.L t) (q + 1) = q2 at *
    obtain ⟨hu, hud⟩ := st_unlocks hp hst (q2 - (q + 1)) (by omega) (fun i h1 h2 => s3 i h1 (by omega))
    rw [show q + 1 + (q2 - (q + 1)) = q2 from by omega] at hu
    have hcm : cmpsFrom (S.K t) j.N (S.L t) (q + 1) = cmpsFrom (S.K t) (upd j.N q (j.N q - 1)) (S.L t) q2 := by
      rw [cmps_skip (q2 - (q + 1)) (q + 1) (by omega) (fun i h1 h2 => by rw [s3 i h1 (by omega)]; decide), show q + 1 + (q2 - (q + 1)) = q2 from by omega]
      exact (cmps_congr (fun i h1 h2 h3 => upd_other _ _ (by omega))).symm
    refine ⟨⟨rfl, hcm, hu, ?_, by rw [hr.1]; exact h.ready⟩, ⟨fun e g => ?_, fun g => ?_⟩, ⟨_, rfl, rfl⟩, hr⟩
    · show (cutN xg.since _).length = (cutN xg.held _).length
      unfold cutN
      rw [List.length_take, List.length_take, g2]
    · rw [hcm] at e
      exact cmps_ne (by exact g) hj.last e
    · show cmpsFrom (S.K t) j.N (S.L t) (q + 1) = []
      rw [hcm]
      exact cmps_end _ _ (by have : ¬ q2 < S.L t := g; omega)

/-- Whoever goes ahead of a higher one holds what keeps that one off. -/
theorem ahead_holds {S : Sy} {m : Mc} {t a : Nat} (hc : (chTo S m S.n).1 = (t : Int)) (ha : a < S.n) (hr : readyB m a = true) (hz : S.Z t < S.Z a) : ∃ r, r < 8 ∧ m.hold r = (t : Int) ∧ S.Z a ≤ S.C r := by
  obtain ⟨ht, hrt, hle⟩ := chosen_max hc ha hr
  obtain ⟨a1, a2, a3, a4, a5⟩ := act_spec S m.hold a 8
  obtain ⟨t1, t2, t3, t4, t5⟩ := act_spec S m.hold t 8
  have e2 : (actTo S m.hold t 8).2 ≤ 1 ∧ 0 ≤ (actTo S m.hold a 8).2 := by
    constructor
    · by_cases hh : ∃ r, r < 8 ∧ m.hold r = (t : Int)
      · rw [t4 hh]; omega
      · rw [(t5 hh).1]; omega
    · by_cases hh : ∃ r, r < 8 ∧ m.hold r = (a : Int)
      · rw [a4 hh]; omega
      · rw [(a5 hh).1]; omega
  unfold rank at hle
  rcases t3 with h3 | ⟨r, h3, h4, h5⟩
  · omega
  · exact ⟨r, h3, h4, by omega⟩

/-- Of two lower ones no two hold what keeps a higher one off. -/
theorem one_ahead {S : Sy} {m : Mc} (hk : LkInv S m) {a b t r r' : Nat} (ha : a < S.n) (hb : b < S.n) (hza : S.Z a < S.Z t) (hzb : S.Z b < S.Z t) (hr : r < 8) (hr' : r' < 8) (h1 : m.hold r = (a : Int)) (h2 : m.hold r' = (b : Int)) (c1 : S.Z t ≤ S.C r) (c2 : S.Z t ≤ S.C r') : a = b := by
  refine Classical.byContradiction (fun hne => ?_)
  rcases hk.pair a b ha hb hne ⟨r, hr, h1⟩ ⟨r', hr', h2⟩ with g | g
  · have := g r hr h1; omega
  · have := g r' hr' h2; omega

end Go.Proofs.Ytdabcflpcklfiaa.Cad

/- Plain mathematics: what the law looks at in a tick is as it must be, and its runs stay beside the jobs. -/
namespace Go.Proofs.Ytdabcflpcklfiaa.Cad

/-- P13, at one tick. -/
theorem fair_ok {S : Sy} {m : Mc} {u : Wt} (hs : SyOk S) (ho : Ok S m) (hk : LkInv S m) (h : WI S m u) {t : Nat} (hc : (chTo S m S.n).1 = (t : Int)) (ht : t < S.n) {x : Wr} {l : List Wr} (hx : u.runs t = x :: l) {a : Nat} {y : Wr} {l' : List Wr} (ha : a < S.n) (hy : u.runs a = y :: l') (hr : y.ready ≤ u.now) (hz : S.Z t < S.Z a) :
    (∃ r ∈ x.held, S.Z a ≤ S.C r.toNat) ∧ sectOf S.C (S.Z a) (goesW S t u.now x).held (goesW S t u.now x).since = sectOf S.C (S.Z a) x.held x.since ∧
    0 ≤ sectOf S.C (S.Z a) x.held x.since ∧ sectOf S.C (S.Z a) x.held x.since < y.ready ∧ (0 ≤ y.bk → y.bk = (t : Int) ∧ y.fr = sectOf S.C (S.Z a) x.held x.since) := by
  have hra : readyB m a = true := (h.ready ha).2 ⟨y, l', hy, hr⟩
  obtain ⟨r, hr8, hh, hcr⟩ := ahead_holds hc ha hra hz
  obtain ⟨j, lq, hq, hj, _⟩ := h.kern ht hx
  have hm : (r : Int) ∈ x.held := (h.holds hs ho hk ht hx hr8).2 hh
  have hex : ∃ r ∈ x.held, S.Z a ≤ S.C r.toNat := ⟨(r : Int), hm, by simpa using hcr⟩
  obtain ⟨i, ri, h1, h2, h3, h4⟩ := sect_some (C := S.C) (z := S.Z a) hj.len hex
  have hs0 := h.old t x l ht hx _ (List.mem_of_getElem? h4)
  have hlt : sectOf S.C (S.Z a) x.held x.since < y.ready := by
    rcases Int.lt_or_le (sectOf S.C (S.Z a) x.held x.since) y.ready with g | g
    · exact g
    · exfalso
      obtain ⟨i', r', hi', hr', hc'⟩ := h.i1 t x l a y l' ht ha hz hx hy i _ h4 g
      have := h3 i' r' hi' hr'
      omega
  refine ⟨hex, sect_append hj.len hex, hs0.1, hlt, fun hb => ?_⟩
  obtain ⟨e1, e2⟩ := h.i2 a y l' t x l ha ht hz hy hb hx hs0.1 hlt
  exact ⟨e1.symm, e2.symm⟩

/-- P12, at one Lock. -/
theorem free_ok {S : Sy} {m : Mc} {u : Wt} (hs : SyOk S) (ho : Ok S m) (hk : LkInv S m) (h : WI S m u) {t : Nat} (hc : (chTo S m S.n).1 = (t : Int)) (ht : t < S.n) {x : Wr} {l : List Wr} (hx : u.runs t = x :: l) {d : Nat} (hd : x.step + d < skip (S.K t) 2 (S.L t) x.step) :
    S.N t (x.step + d) ∉ x.held ++ locksF (S.N t) x.step d ∧ (∀ y ∈ l, S.N t (x.step + d) ∉ y.held) ∧ ∀ a, a < S.n → a ≠ t → ∀ y ∈ u.runs a, S.N t (x.step + d) ∉ y.held := by
  obtain ⟨j, lq, hq, hj, _⟩ := h.kern ht hx
  have hjo := (ho.job t ht j (by rw [hq]; simp)).1
  obtain ⟨p1, p2, p3, p4⟩ := place1 hjo
  rw [hj.step] at hd ⊢
  generalize skip (S.K t) 2 (S.L t) j.p = q at *
  have hp := hs.prog t ht
  have hk2 := p4 (j.p + d) (by omega) (by omega)
  have hst := st_locks hp hj.held (d + 1) (by omega) (fun i h1 h2 => p4 i h1 (by omega))
  have hnd := (prog_inv _ _ _ _ hst).nodup
  have hrg := (prog_inv _ _ _ _ hst).rng (S.N t (j.p + d)) (by rw [List.mem_append, locksF_mem]; exact .inr ⟨j.p + d, by omega, by omega, rfl⟩)
  obtain ⟨r, hr8, hrn⟩ : ∃ r : Nat, r < 8 ∧ S.N t (j.p + d) = (r : Int) := ⟨(S.N t (j.p + d)).toNat, by omega, by omega⟩
  have hfree := lock_free_of hs hk hc ht (by omega) hk2 hr8 hrn
  refine ⟨fun hm => ?_, fun y hy hm => ?_, fun a ha hne y hy hm => ?_⟩
  · have e : x.held ++ locksF (S.N t) j.p (d + 1) = (x.held ++ locksF (S.N t) j.p d) ++ [S.N t (j.p + d)] := by simp [locksF]
    rw [e] at hnd
    have := (List.nodup_append.1 hnd).2.2 _ hm (S.N t (j.p + d)) (by simp)
    exact this rfl
  · rw [(h.rest hk ht hx y hy).1] at hm
    cases hm
  · cases hra : u.runs a with
    | nil => rw [hra] at hy; cases hy
    | cons z lz =>
      rw [hra] at hy
      rcases List.mem_cons.1 hy with rfl | hy'
      · rw [hrn] at hm
        have := (h.holds hs ho hk ha hra hr8).1 hm
        rcases hfree with g | g
        · omega
        · omega
      · rw [(h.rest hk ha hra y hy').1] at hm
        cases hm

theorem wi_idle {S : Sy} {m : Mc} {u : Wt} (h : WI S m u) : WI S { m with now := m.now + 1, idle := m.idle + 1 } (widle u) := by
  refine ⟨by show u.now + 1 = m.now + 1; rw [h.now], by show u.idle + 1 = m.idle + 1; rw [h.idle], h.len, h.jw, fun t x l j l' ht h1 h2 => ?_, h.tl, fun t x l ht h1 s hs => ?_, fun t y l ht h1 h2 => ?_, h.i1, h.i2⟩
  · rcases h.hd t x l j l' ht h1 h2 with g | g
    · exact .inl g
    · exact .inr (by show x.ready ≤ m.now + 1; omega)
  · have := h.old t x l ht h1 s hs
    exact ⟨this.1, by show s < m.now + 1; omega⟩
  · have := h.byr t y l ht h1 h2
    show y.ready < m.now + 1
    omega

theorem fairW_cons {S : Sy} {now : Int} {t a : Nat} {xg : Wr} {l : List Wr} {y : Wr} {r : List Wr} (h : fairW S now t xg a l = y :: r) : ∃ y0, l = y0 :: r ∧ y.ready = y0.ready ∧ y.held = y0.held ∧ y.since = y0.since ∧ y.step = y0.step ∧ y.left = y0.left ∧
    ((y0.ready ≤ now ∧ S.Z t < S.Z a ∧ y.bk = (t : Int) ∧ y.fr = sectOf S.C (S.Z a) xg.held xg.since) ∨ (¬ (y0.ready ≤ now ∧ S.Z t < S.Z a) ∧ y.bk = y0.bk ∧ y.fr = y0.fr)) := by
  unfold fairW at h
  cases l with
  | nil => cases h
  | cons y0 r0 =>
    simp only [] at h
    split at h
    · rename_i hc
      cases h
      exact ⟨y0, rfl, rfl, rfl, rfl, rfl, rfl, .inl ⟨hc.1, hc.2, rfl, rfl⟩⟩
    · rename_i hc
      cases h
      exact ⟨_, rfl, rfl, rfl, rfl, rfl, rfl, .inr ⟨hc, rfl, rfl⟩⟩

theorem fairW_len (S : Sy) (now : Int) (t a : Nat) (xg : Wr) (l : List Wr) : (fairW S now t xg a l).length = l.length := by
  unfold fairW
  cases l with
  | nil => rfl
  | cons y r => simp only []; split <;> rfl

theorem fairW_get {S : Sy} {now : Int} {t a : Nat} {xg : Wr} {l : List Wr} {i : Nat} {y : Wr} (h : (fairW S now t xg a l)[i]? = some y) : ∃ y0, l[i]? = some y0 ∧ y.ready = y0.ready ∧ y.held = y0.held ∧ y.since = y0.since ∧ y.step = y0.step ∧ y.left = y0.left ∧ (1 ≤ i → y = y0) := by
  unfold fairW at h
  cases l with
  | nil => simp at h
  | cons y0 r =>
    simp only [] at h
    cases i with
    | zero =>
      split at h
      · simp at h; subst h; exact ⟨y0, rfl, rfl, rfl, rfl, rfl, rfl, fun g => by omega⟩
      · simp at h; subst h; exact ⟨y0, rfl, rfl, rfl, rfl, rfl, rfl, fun _ => rfl⟩
    | succ i =>
      split at h
      · exact ⟨y, by simpa using h, rfl, rfl, rfl, rfl, rfl, fun _ => rfl⟩
      · exact ⟨y, by simpa using h, rfl, rfl, rfl, rfl, rfl, fun _ => rfl⟩

end Go.Proofs.Ytdabcflpcklfiaa.Cad
