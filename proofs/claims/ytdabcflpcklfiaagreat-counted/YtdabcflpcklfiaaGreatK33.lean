import Derived.Test.YtdabcflpcklfiaaGreatK32
/- Plain mathematics: the busy time of a level: no job is older than its bound. -/
namespace Go.Proofs.YtdabcflpcklfiaaGreat.Cad

def dmS (S : Sy) (t : Nat) : Int := demTo (S.K t) (S.N t) (S.L t)

/-- Bounds for all tasks. -/
structure Bd (S : Sy) (W B : Nat → Int) : Prop where
  per : ∀ t, t < S.n → 1 ≤ S.P t ∧ 0 ≤ S.J t
  pos : ∀ i, i < S.n → 1 ≤ W i
  fix : ∀ i, i < S.n → dmS S i + B i + inter S.P S.J (dmS S) (fun j => decide (S.Z i < S.Z j)) (W i) S.n ≤ W i
  fits : ∀ i, i < S.n → W i + S.J i ≤ S.P i
  blk0 : ∀ i, i < S.n → 0 ≤ B i
  blk : ∀ i a r k, i < S.n → a < S.n → r < 8 → S.Z a < S.Z i → S.Z i ≤ S.C r → k < S.L a → S.K a k = 2 → S.N a k = (r : Int) → lonTo (S.K a) (S.N a) (r : Int) (S.L a) ≤ B i

structure QInv (S : Sy) (m : Mc) : Prop where
  one : ∀ t, t < S.n → (m.q t).length ≤ 1
  arrl : ∀ t, t < S.n → ∀ x ∈ m.q t, x.arr ≤ m.last t ∧ x.rel ≤ x.arr + S.J t ∧ x.arr ≤ x.rel

/-- A level since it was last quiet. -/
structure Lv (S : Sy) (W B : Nat → Int) (m : Mc) (i : Nat) (s : Int) (ex N nb : Nat → Int) (bl : Int) (st : Nat → Bool) : Prop where
  before : s ≤ m.now
  sum : m.now - s = sumTo ex S.n + bl
  len : m.now - s < W i
  low : ∀ j, j < S.n → S.Z j < S.Z i → ex j = 0
  used : ∀ j, j < S.n → S.Z i ≤ S.Z j → 0 ≤ N j ∧ ex j ≤ dmS S j * N j ∧ (∀ x l, m.q j = x :: l → st j = true → ex j + x.left ≤ dmS S j * N j)
  run : ∀ j, j < S.n → S.Z i ≤ S.Z j → st j = true → m.q j ≠ []
  many : ∀ j, j < S.n → S.Z i ≤ S.Z j → N j * S.P j ≤ nb j - s + S.J j ∧ (1 ≤ N j → nb j ≤ m.now - 1 + S.P j)
  wait : ∀ j, j < S.n → S.Z i ≤ S.Z j → st j = false → ∀ x ∈ m.q j, nb j ≤ x.arr
  next : ∀ j, j < S.n → S.Z i ≤ S.Z j → nb j ≤ m.now ∨ (0 < m.done j + (m.q j).length ∧ nb j ≤ m.last j + S.P j)
  young : ∀ j, j < S.n → S.Z i ≤ S.Z j → ∀ x ∈ m.q j, s ≤ x.rel
  bl0 : 0 ≤ bl
  bl1 : bl ≤ B i
  sect : ∀ a x l r k e, a < S.n → S.Z a < S.Z i → r < 8 → S.Z i ≤ S.C r → m.q a = x :: l → Closed (S.K a) (S.N a) (r : Int) k e (S.L a) → k < x.p → x.p ≤ e → bl + (demTo (S.K a) x.N e - demTo (S.K a) x.N x.p) ≤ B i
  own : N i = 0 ∨ (N i = 1 ∧ st i = true)

/-- A job that is not done is younger than its bound. -/
theorem Lv.young_of {S : Sy} {W B : Nat → Int} {m : Mc} {i : Nat} {s : Int} {ex N nb : Nat → Int} {bl : Int} {st : Nat → Bool} (hq : QInv S m) (h : Lv S W B m i s ex N nb bl st) (hi : i < S.n) {x : Jb} (hx : x ∈ m.q i) : m.now < x.arr + S.J i + W i := by
  have h1 := h.young i hi (Int.le_refl _) x hx
  have h2 := h.len
  have h3 := (hq.arrl i hi x hx).2.1
  omega

def Quiet (S : Sy) (m : Mc) (i : Nat) : Prop := ∀ j, j < S.n → S.Z i ≤ S.Z j → ∀ x ∈ m.q j, m.now ≤ x.rel

/-- Where a level is quiet it begins anew. -/
theorem lv_quiet {S : Sy} {W B : Nat → Int} {m : Mc} {i : Nat} (hs : SyOk S) (hb : Bd S W B) (hl : LkInv S m) (hq : QInv S m) (hi : i < S.n) (h : Quiet S m i) :
    Lv S W B m i m.now (fun _ => 0) (fun _ => 0) (fun j => m.now - S.J j) 0 (fun _ => false) := by
  have hp := hb.pos i hi
  refine ⟨Int.le_refl _, ?_, by omega, fun _ _ _ => rfl, fun j _ _ => ⟨Int.le_refl _, by simp, fun _ _ _ e => (by cases e)⟩, fun _ _ _ e => (by cases e), fun j hj _ => ⟨by have := hb.per j hj; simp; omega, fun e => by omega⟩, fun j hj hz _ x hx => ?_, fun j hj _ => .inl (by have := hb.per j hj; omega), h, Int.le_refl _, hb.blk0 i hi, fun a x l r k e ha hza hr hc hqa hcl hk he => ?_, .inl rfl⟩
  · rw [sumTo_zero]; omega
  · have h1 := h j hj hz x hx
    have h2 := (hq.arrl j hj x hx).2.1
    omega
  · have h1 := rem_le (S := S) (t := a) (j := x) (hs.prog a ha) (fun k hk h1 => (hl.num a ha x (by rw [hqa]; simp) k hk).2 h1) hcl hk he
    have h2 := hb.blk i a r k hi ha hr hza hc (by have := hcl.1; have := hcl.2.1; omega) hcl.2.2.1 hcl.2.2.2.1
    omega

/-! ### a job's tick -/

theorem run_rem {K : Nat → Int} {L t : Nat} {h : Nat → Int} {j : Jb} (hj : JbOk K L j) {e : Nat} (h1 : skip K 2 L j.p < e) (h2 : (runK K L t h j).2.p ≤ e) :
    demTo K (runK K L t h j).2.N e - demTo K (runK K L t h j).2.N (runK K L t h j).2.p = demTo K j.N e - demTo K j.N j.p - 1 := by
  obtain ⟨p1, hp1⟩ : ∃ p1, p1 = skip K 2 L j.p := ⟨_, rfl⟩
  have hsp := skip_spec K 2 (L := L) (p := j.p) (by have := hj.lt; omega)
  have hsl := skipLt hj
  rw [← hp1] at hsp hsl h1
  have hn := hj.comp p1 hsp.1 hsl.1 hsl.2
  have hflat : demTo K j.N p1 = demTo K j.N j.p := by
    obtain ⟨d, hd⟩ : ∃ d, p1 = j.p + d := ⟨p1 - j.p, by omega⟩
    rw [hd]
    exact dem_flat d (fun i h1 h2 => by rw [hsp.2.2.1 i h1 (by omega)]; decide)
  have hstep : demTo K j.N (p1 + 1) = demTo K j.N p1 + j.N p1 := by rw [demTo, if_pos hsl.2]
  revert h2
  unfold runK
  simp only []
  rw [← hp1]
  by_cases hx : 0 < j.N p1 - 1
  · rw [if_pos hx]
    intro h2
    show demTo K (upd j.N p1 (j.N p1 - 1)) e - demTo K (upd j.N p1 (j.N p1 - 1)) p1 = _
    rw [dem_upd hsl.2, dem_upd hsl.2, if_pos h1, if_neg (Nat.lt_irrefl _), hflat]
    omega
  · rw [if_neg hx]
    intro h2
    obtain ⟨p2, hp2⟩ : ∃ p2, p2 = skip K 3 L (p1 + 1) := ⟨_, rfl⟩
    have hs2 := skip_spec K 3 (L := L) (p := p1 + 1) (by omega)
    rw [← hp2] at hs2 h2 ⊢
    have hflat2 : demTo K j.N p2 = demTo K j.N (p1 + 1) := by
      obtain ⟨d, hd⟩ : ∃ d, p2 = p1 + 1 + d := ⟨p2 - (p1 + 1), by omega⟩
      rw [hd]
      exact dem_flat d (fun i h1 h2 => by rw [hs2.2.2.1 i h1 (by omega)]; decide)
    show demTo K (upd j.N p1 (j.N p1 - 1)) e - demTo K (upd j.N p1 (j.N p1 - 1)) p2 = _
    rw [dem_upd hsl.2, dem_upd hsl.2, if_pos h1, if_pos (by omega), hflat2, hstep, hflat]
    omega

/-- Where a job stands behind its tick, against the Compute that it was in. -/
theorem run_place {K : Nat → Int} {L t : Nat} {h : Nat → Int} {j : Jb} (hj : JbOk K L j) : skip K 2 L j.p ≤ (runK K L t h j).2.p ∧ (∀ k, skip K 2 L j.p < k → k < (runK K L t h j).2.p → K k = 3) := by
  have hsl := skipLt hj
  unfold runK
  simp only []
  by_cases hx : 0 < j.N (skip K 2 L j.p) - 1
  · rw [if_pos hx]
    refine ⟨Nat.le_refl _, fun k h1 h2 => ?_⟩
    have h2' : k < skip K 2 L j.p := h2
    omega
  · rw [if_neg hx]
    have hs2 := skip_spec K 3 (L := L) (p := skip K 2 L j.p + 1) (by omega)
    refine ⟨?_, fun k h1 h2 => hs2.2.2.1 k (by omega) h2⟩
    show skip K 2 L j.p ≤ skip K 3 L (skip K 2 L j.p + 1)
    omega

/-- In a section there is something left to do. -/
theorem rem_pos {K N : Nat → Int} {L k e : Nat} {r : Int} {j : Jb} (hj : JbOk K L j) (hc : Closed K N r k e L) (he : j.p ≤ e) : skip K 2 L j.p < e ∧ 1 ≤ demTo K j.N e - demTo K j.N j.p := by
  have hsp := skip_spec K 2 (L := L) (p := j.p) (by have := hj.lt; omega)
  have hsl := skipLt hj
  have h3 := hc.2.2.2.2.1
  have hlt : skip K 2 L j.p < e := by
    rcases Nat.lt_trichotomy (skip K 2 L j.p) e with g | g | g
    · exact g
    · rw [← g] at h3; omega
    · have := hsp.2.2.1 e he g; omega
  refine ⟨hlt, ?_⟩
  have hn := hj.comp _ hsp.1 hsl.1 hsl.2
  obtain ⟨d, hd⟩ : ∃ d, skip K 2 L j.p = j.p + d := ⟨skip K 2 L j.p - j.p, by omega⟩
  have h1 := (dem_diff (K := K) (N := j.N) (a := j.p) d (fun i a b => hj.comp i a (by omega))).1
  have h2 : demTo K j.N (skip K 2 L j.p + 1) = demTo K j.N (skip K 2 L j.p) + j.N (skip K 2 L j.p) := by rw [demTo, if_pos hsl.2]
  obtain ⟨d2, hd2⟩ : ∃ d2, e = skip K 2 L j.p + 1 + d2 := ⟨e - (skip K 2 L j.p + 1), by omega⟩
  have h4 := (dem_diff (K := K) (N := j.N) (a := skip K 2 L j.p + 1) d2 (fun i a b => hj.comp i (by omega) (by have := hc.2.1; omega))).1
  rw [← hd2] at h4
  rw [← hd] at h1
  omega

/-- What a section's rest is behind a tick in it. -/
theorem sect_tick {S : Sy} {B : Nat → Int} {i t : Nat} {j : Jb} {bl : Int} {h : Nat → Int} (hp : progB (S.K t) (S.N t) (S.L t) = true) (hj : JbOk (S.K t) (S.L t) j)
    (hsect : ∀ r k e, r < 8 → S.Z i ≤ S.C r → Closed (S.K t) (S.N t) (r : Int) k e (S.L t) → k < j.p → j.p ≤ e → bl + (demTo (S.K t) j.N e - demTo (S.K t) j.N j.p) ≤ B i)
    {r0 : Nat} (hr0 : r0 < 8) (hc0 : S.Z i ≤ S.C r0) (hin : Inside S t j.p r0) :
    bl + 1 ≤ B i ∧ ∀ r k e, r < 8 → S.Z i ≤ S.C r → Closed (S.K t) (S.N t) (r : Int) k e (S.L t) → k < (runK (S.K t) (S.L t) t h j).2.p → (runK (S.K t) (S.L t) t h j).2.p ≤ e →
      bl + 1 + (demTo (S.K t) (runK (S.K t) (S.L t) t h j).2.N e - demTo (S.K t) (runK (S.K t) (S.L t) t h j).2.N (runK (S.K t) (S.L t) t h j).2.p) ≤ B i := by
  obtain ⟨k0, e0, hcl0, hk0, he0⟩ := hin
  have hb0 := hsect r0 k0 e0 hr0 hc0 hcl0 hk0 he0
  obtain ⟨hlt0, hpos0⟩ := rem_pos hj hcl0 he0
  have hsp := skip_spec (S.K t) 2 (L := S.L t) (p := j.p) (by have := hj.lt; omega)
  have hsl := skipLt hj
  obtain ⟨hpl1, hpl2⟩ := run_place (t := t) (h := h) hj
  refine ⟨by omega, fun r k e hr hc hcl hk he => ?_⟩
  have hpe : j.p ≤ e := by omega
  obtain ⟨hlt, _⟩ := rem_pos hj hcl hpe
  rw [run_rem hj hlt he]
  rcases Nat.lt_or_ge k j.p with g | g
  · have := hsect r k e hr hc hcl g hpe
    omega
  · have hkp : k < skip (S.K t) 2 (S.L t) j.p := by
      have h2k := hcl.2.2.1
      rcases Nat.lt_trichotomy k (skip (S.K t) 2 (S.L t) j.p) with g1 | g1 | g1
      · exact g1
      · rw [← g1] at hsl; omega
      · have := hpl2 k g1 hk; omega
    have hle := nest hp hcl0 hcl (by omega) (by omega)
    obtain ⟨d, hd⟩ : ∃ d, e0 = e + d := ⟨e0 - e, by omega⟩
    have h4 := (dem_diff (K := S.K t) (N := j.N) (a := e) d (fun i a b => hj.comp i (by omega) (by have := hcl0.2.1; omega))).1
    rw [← hd] at h4
    omega

end Go.Proofs.YtdabcflpcklfiaaGreat.Cad

/- Plain mathematics: a level behind a tick: no busy time is as long as its bound. -/
namespace Go.Proofs.YtdabcflpcklfiaaGreat.Cad

theorem dm_pos {S : Sy} (hs : SyOk S) {t : Nat} (ht : t < S.n) : 1 ≤ dmS S t := (dem_pos (hs.prog t ht)).1

/-- A busy time that is no longer than the bound is shorter. -/
theorem Lv.tight {S : Sy} {W W' B : Nat → Int} {m : Mc} {i : Nat} {s : Int} {ex N nb : Nat → Int} {bl : Int} {st : Nat → Bool} (hs : SyOk S) (hb : Bd S W B) (ho : Ok S m) (hi : i < S.n) (h : Lv S W' B m i s ex N nb bl st) (hw : m.now - s ≤ W i) : Lv S W B m i s ex N nb bl st := by
  refine { h with len := ?_ }
  have hdm := dm_pos hs hi
  have hown : ex i ≤ dmS S i - 1 := by
    obtain ⟨u1, u2, u3⟩ := h.used i hi (Int.le_refl _)
    rcases h.own with e | ⟨e, e2⟩
    · rw [e, Int.mul_zero] at u2
      omega
    · have hne := h.run i hi (Int.le_refl _) e2
      cases hq : m.q i with
      | nil => exact absurd hq hne
      | cons x l =>
        have h1 := u3 x l hq e2
        have h2 := left_pos (ho.job i hi x (by rw [hq]; simp)).1
        rw [e, Int.mul_one] at h1
        omega
  have hsum := level_sum (P := S.P) (J := S.J) (dm := dmS S) (Z := S.Z) (i := i) (w := m.now - s) (f := ex) (own := dmS S i - 1) S.n
    (fun j hj hz => by
      obtain ⟨u1, u2, _⟩ := h.used j hj (by omega)
      obtain ⟨c1, c2⟩ := h.many j hj (by omega)
      have hp := hb.per j hj
      have hdj := dm_pos hs hj
      have hN : N j ≤ ceilD (m.now - s + S.J j) (S.P j) := by
        rcases Int.lt_or_le (N j) 1 with g | g
        · have := ceilD_nonneg (a := m.now - s + S.J j) (p := S.P j) (by have := h.before; omega) hp.1
          omega
        · have := c2 g
          exact count_le hp.1 (by omega)
      have := Int.mul_le_mul_of_nonneg_right hN (show 0 ≤ dmS S j by omega)
      rw [Int.mul_comm (dmS S j)] at u2
      omega)
    (fun j hj hne hz => by
      rcases Int.lt_or_le (S.Z j) (S.Z i) with g | g
      · exact h.low j hj g
      · exact absurd (hs.inj j i hj hi (by omega)) hne)
    (fun _ => hown) (by omega)
  rw [if_pos hi] at hsum
  have h1 := h.sum
  have h2 := h.bl1
  have h3 := hb.fix i hi
  rcases Int.lt_or_le (m.now - s) (W i) with g | g
  · exact g
  · have e : m.now - s = W i := by omega
    rw [e] at hsum h1
    omega

theorem q_one {S : Sy} {m : Mc} (hq : QInv S m) {t : Nat} (ht : t < S.n) {x : Jb} (hx : x ∈ m.q t) : m.q t = [x] := by
  have h1 := hq.one t ht
  cases h : m.q t with
  | nil => rw [h] at hx; cases hx
  | cons a l =>
    rw [h] at h1 hx
    simp only [List.length_cons] at h1
    have : l = [] := List.eq_nil_of_length_eq_zero (by omega)
    subst this
    have : x = a := by simpa using hx
    rw [this]

theorem ready_of {S : Sy} {m : Mc} (hq : QInv S m) {t : Nat} (ht : t < S.n) {x : Jb} (hx : x ∈ m.q t) (hr : x.rel ≤ m.now) : readyB m t = true := by
  unfold readyB
  rw [q_one hq ht hx]
  simpa using hr

/-- What a tick of task t does, as far as the levels look. -/
structure Stp (S : Sy) (m m' : Mc) (t : Nat) (j x : Jb) (dn : Bool) : Prop where
  now : m'.now = m.now + 1
  last : m'.last = m.last
  here : m'.q t = if dn = true then [] else [x]
  other : ∀ a, a ≠ t → m'.q a = m.q a
  more : 0 < m'.done t + (m'.q t).length
  same : ∀ a, a ≠ t → m'.done a = m.done a
  fin : dn = true → x.p = S.L t
  arr : x.arr = j.arr
  rel : x.rel = j.rel
  left : x.left = j.left - 1
  run : x = (runK (S.K t) (S.L t) t m.hold j).2

theorem stp_of {S : Sy} {m : Mc} {t : Nat} {j : Jb} (hj : JbOk (S.K t) (S.L t) j) : ∃ x dn, Stp S m (tickAt S m t j []).1 t j x dn ∧ dn = (tickAt S m t j []).2 := by
  obtain ⟨k1, k2, k3, k4, k5, k6, k7⟩ := runK_ok (t := t) (h := m.hold) hj
  refine ⟨(runK (S.K t) (S.L t) t m.hold j).2, (tickAt S m t j []).2, ?_, rfl⟩
  by_cases hp : (runK (S.K t) (S.L t) t m.hold j).2.p < S.L t
  · have e : tickAt S m t j [] = ({ m with now := m.now + 1, hold := (runK (S.K t) (S.L t) t m.hold j).1, q := upd m.q t [(runK (S.K t) (S.L t) t m.hold j).2] }, false) := by
      unfold tickAt
      exact if_pos hp
    rw [e]
    refine ⟨rfl, rfl, ?_, fun a ha => upd_other _ _ ha, ?_, fun a _ => rfl, fun h => (by cases h), k4, k5, k7, rfl⟩
    · show upd m.q t _ t = _
      rw [upd_same]; rfl
    · show 0 < _ + (upd m.q t _ t).length
      rw [upd_same]; simp
  · have e : tickAt S m t j [] = ({ m with now := m.now + 1, hold := (runK (S.K t) (S.L t) t m.hold j).1, q := upd m.q t [], done := upd m.done t (m.done t + 1), kept := keep m.kept ⟨t, j.arr, j.rel, m.now + 1, (runK (S.K t) (S.L t) t m.hold j).2.left, j.ord⟩ }, true) := by
      unfold tickAt
      exact if_neg hp
    rw [e]
    refine ⟨rfl, rfl, ?_, fun a ha => upd_other _ _ ha, ?_, fun a ha => upd_other _ _ ha, fun _ => by omega, k4, k5, k7, rfl⟩
    · show upd m.q t _ t = _
      rw [upd_same]; rfl
    · show 0 < upd m.done t (m.done t + 1) t + _
      rw [upd_same]; omega

theorem q_stp {S : Sy} {m m' : Mc} {t : Nat} {j x : Jb} {dn : Bool} (hq : QInv S m) (hqt : m.q t = [j]) (h : Stp S m m' t j x dn) : QInv S m' := by
  refine ⟨fun a ha => ?_, fun a ha y hy => ?_⟩
  · by_cases e : a = t
    · subst e
      rw [h.here]
      split <;> simp
    · rw [h.other a e]; exact hq.one a ha
  · rw [h.last]
    by_cases e : a = t
    · subst e
      rw [h.here] at hy
      split at hy
      · cases hy
      · have : y = x := by simpa using hy
        rw [this, h.arr, h.rel]
        exact hq.arrl a ha j (by rw [hqt]; simp)
    · rw [h.other a e] at hy; exact hq.arrl a ha y hy

/-- Who is done with a tick held nothing in it. -/
theorem last_free {S : Sy} {t r : Nat} {h : Nat → Int} {j : Jb} (_hp : progB (S.K t) (S.N t) (S.L t) = true) (hj : JbOk (S.K t) (S.L t) j) (hd : (runK (S.K t) (S.L t) t h j).2.p = S.L t) : ¬ Inside S t j.p r := by
  rintro ⟨k, e, hc, hk, he⟩
  obtain ⟨hlt, _⟩ := rem_pos hj hc he
  obtain ⟨_, h2⟩ := run_place (t := t) (h := h) hj
  have h3 := h2 (S.L t - 1) (by have := hc.2.1; omega) (by have := hj.lt; omega)
  have := hj.last
  omega

end Go.Proofs.YtdabcflpcklfiaaGreat.Cad

/- Plain mathematics: what holds of a level is kept by ticks and arrivals. -/
namespace Go.Proofs.YtdabcflpcklfiaaGreat.Cad

/-- If a level's job waits behind a tick, then the tick was of the level, or in a section that is high enough. -/
theorem tick_whose {S : Sy} {m : Mc} {i t a : Nat} (hc : (chTo S m S.n).1 = (t : Int)) (ha : a < S.n) (hz : S.Z i ≤ S.Z a) (hr : readyB m a = true) :
    S.Z i ≤ S.Z t ∨ ∃ r, r < 8 ∧ m.hold r = (t : Int) ∧ S.Z i ≤ S.C r := by
  obtain ⟨_, _, hle⟩ := chosen_max hc ha hr
  obtain ⟨a1, a2, a3, a4, a5⟩ := act_spec S m.hold a 8
  obtain ⟨t1, t2, t3, t4, t5⟩ := act_spec S m.hold t 8
  unfold rank at hle
  have ha2 : 0 ≤ (actTo S m.hold a 8).2 := by
    by_cases c : ∃ r, r < 8 ∧ m.hold r = (a : Int)
    · rw [a4 c]; decide
    · rw [(a5 c).1]; exact Int.le_refl _
  by_cases c : ∃ r, r < 8 ∧ m.hold r = (t : Int)
  · have := t4 c
    rcases t3 with e | ⟨r, h1, h2, h3⟩
    · exact .inl (by omega)
    · exact .inr ⟨r, h1, h2, by omega⟩
  · have := t5 c
    exact .inl (by omega)

/-- Who is done outranks nobody that is ready and has a higher priority. -/
theorem done_top {S : Sy} {m : Mc} {t a : Nat} (hs : SyOk S) (hl : LkInv S m) {j : Jb} {l : List Jb} (hj : JbOk (S.K t) (S.L t) j) (hqt : m.q t = j :: l) (hd : (runK (S.K t) (S.L t) t m.hold j).2.p = S.L t) (hc : (chTo S m S.n).1 = (t : Int)) (ha : a < S.n) (hr : readyB m a = true) : S.Z a ≤ S.Z t := by
  obtain ⟨ht, _, hle⟩ := chosen_max hc ha hr
  obtain ⟨a1, a2, a3, a4, a5⟩ := act_spec S m.hold a 8
  obtain ⟨t1, t2, t3, t4, t5⟩ := act_spec S m.hold t 8
  have hno : ¬ ∃ r, r < 8 ∧ m.hold r = (t : Int) := fun ⟨r, h1, h2⟩ => by
    obtain ⟨j', l', h3, h4⟩ := (hl.iff r t h1 ht).1 h2
    rw [hqt] at h3
    cases h3
    exact last_free (hs.prog t ht) hj hd h4
  have := t5 hno
  unfold rank at hle
  have ha2 : 0 ≤ (actTo S m.hold a 8).2 := by
    by_cases c : ∃ r, r < 8 ∧ m.hold r = (a : Int)
    · rw [a4 c]; decide
    · rw [(a5 c).1]; exact Int.le_refl _
  omega

theorem lv_low {S : Sy} {W B : Nat → Int} {m m' : Mc} {i t : Nat} {s : Int} {ex N nb : Nat → Int} {bl : Int} {st : Nat → Bool} {j x : Jb} {dn : Bool} (hs : SyOk S) (ho : Ok S m) (hl : LkInv S m) (h : Lv S W B m i s ex N nb bl st) (ht : t < S.n) (hqt : m.q t = [j]) (hc : (chTo S m S.n).1 = (t : Int)) (hst : Stp S m m' t j x dn) (hzt : S.Z t < S.Z i) {r0 : Nat} (hr0 : r0 < 8) (hh : m.hold r0 = (t : Int)) (hc0 : S.Z i ≤ S.C r0) :
    Lv S (fun _ => m'.now - s + 1) B m' i s ex N nb (bl + 1) st := by
  have hj := (ho.job t ht j (by rw [hqt]; simp)).1
  have hin : Inside S t j.p r0 := by
    obtain ⟨j', l', h3, h4⟩ := (hl.iff r0 t hr0 ht).1 hh
    rw [hqt] at h3
    cases h3
    exact h4
  obtain ⟨b1, b2⟩ := sect_tick (h := m.hold) (hs.prog t ht) hj (fun r k e hr hcr hcl hk he => h.sect t j [] r k e ht hzt hr hcr hqt hcl hk he) hr0 hc0 hin
  have hne : ∀ a, S.Z i ≤ S.Z a → a ≠ t := fun a hz e => by subst e; omega
  have hnow := hst.now
  have h1 := h.before
  have h2 := h.sum
  have h3 := h.bl0
  refine ⟨by omega, by omega, by show _ < m'.now - s + 1; omega, h.low, fun a ha hz => ?_, fun a ha hz => ?_, fun a ha hz => ?_, fun a ha hz => ?_, fun a ha hz => ?_, fun a ha hz => ?_, by omega, b1, fun a y l r k e ha hza hr hcr hqa hcl hk he => ?_, h.own⟩
  · rw [hst.other a (hne a hz)]; exact h.used a ha hz
  · rw [hst.other a (hne a hz)]; exact h.run a ha hz
  · have := h.many a ha hz
    exact ⟨this.1, fun g => by have := this.2 g; omega⟩
  · rw [hst.other a (hne a hz)]; exact h.wait a ha hz
  · rw [hst.other a (hne a hz), hst.same a (hne a hz), hst.last]
    rcases h.next a ha hz with g | g
    · exact .inl (by omega)
    · exact .inr g
  · rw [hst.other a (hne a hz)]; exact h.young a ha hz
  · by_cases e1 : a = t
    · subst e1
      have hqa' := hqa
      rw [hst.here] at hqa'
      split at hqa'
      · cases hqa'
      · have : x = y := by simpa using (List.cons.inj hqa').1
        subst this
        rw [hst.run] at hk he ⊢
        exact b2 r k e hr hcr hcl hk he
    · rw [hst.other a e1] at hqa
      have hha := (hl.iff r a hr ha).2 ⟨y, l, hqa, k, e, hcl, hk, he⟩
      have := chosen_over hs hl hc ha e1 r hr hha
      omega

theorem lv_level {S : Sy} {W B : Nat → Int} {m m' : Mc} {i t : Nat} {s : Int} {ex N nb : Nat → Int} {bl : Int} {st : Nat → Bool} {j x : Jb} {dn : Bool} (hs : SyOk S) (ho : Ok S m) (hl : LkInv S m) (hq : QInv S m) (h : Lv S W B m i s ex N nb bl st) (hi : i < S.n) (ht : t < S.n) (hqt : m.q t = [j]) (hrel : j.rel ≤ m.now) (hst : Stp S m m' t j x dn) (hzt : S.Z i ≤ S.Z t) (hnd : t = i → dn = false) :
    ∃ ex' N' nb' st', Lv S (fun _ => m'.now - s + 1) B m' i s ex' N' nb' bl st' := by
  have hmem : j ∈ m.q t := by rw [hqt]; simp
  have hj := (ho.job t ht j hmem).1
  have hlp := left_pos hj
  have hle : j.left ≤ dmS S t := left_le (hs.prog t ht) hj (fun k hk h1 => (hl.num t ht j hmem k hk).2 h1)
  have harr := hq.arrl t ht j hmem
  obtain ⟨u1, u2, u3⟩ := h.used t ht hzt
  obtain ⟨c1, c2⟩ := h.many t ht hzt
  have hnow := hst.now
  have hx : ∃ N' nb' : Nat → Int, (∀ a, a ≠ t → N' a = N a ∧ nb' a = nb a) ∧ 0 ≤ N' t ∧ ex t + j.left ≤ dmS S t * N' t ∧ N' t * S.P t ≤ nb' t - s + S.J t ∧ (1 ≤ N' t → nb' t ≤ m.now + S.P t) ∧ (nb' t ≤ m.now ∨ nb' t ≤ m.last t + S.P t) ∧ (t = i → N' t = 0 ∨ N' t = 1) := by
    cases hb : st t with
    | true =>
      refine ⟨N, nb, fun a _ => ⟨rfl, rfl⟩, u1, u3 j [] hqt hb, c1, fun g => by have := c2 g; omega, ?_, fun e => ?_⟩
      · rcases h.next t ht hzt with g | g
        · exact .inl g
        · exact .inr g.2
      · subst e
        rcases h.own with g | g
        · exact .inl g
        · exact .inr g.1
    | false =>
      have hw := h.wait t ht hzt hb j hmem
      refine ⟨upd N t (N t + 1), upd nb t (j.arr + S.P t), fun a ha => ⟨upd_other _ _ ha, upd_other _ _ ha⟩, ?_, ?_, ?_, ?_, ?_, ?_⟩
      · rw [upd_same]; omega
      · rw [upd_same, Int.mul_add, Int.mul_one]; omega
      · rw [upd_same, upd_same, Int.add_mul, Int.one_mul]; omega
      · rw [upd_same, upd_same]; intro _; omega
      · rw [upd_same]; exact .inr (by omega)
      · rintro rfl
        rw [upd_same]
        rcases h.own with g | g
        · exact .inr (by omega)
        · rw [hb] at g; cases g.2
  obtain ⟨N', nb', n1, n2, n3, n4, n5, n6, n7⟩ := hx
  have h1 := h.before
  have h2 := h.sum
  refine ⟨upd ex t (ex t + 1), N', nb', upd st t (!dn), by omega, ?_, by show _ < m'.now - s + 1; omega, fun a ha hz => ?_, fun a ha hz => ?_, fun a ha hz => ?_, fun a ha hz => ?_, fun a ha hz => ?_, fun a ha hz => ?_, fun a ha hz => ?_, h.bl0, h.bl1, fun a y l r k e ha hza hr hcr hqa hcl hk he => ?_, ?_⟩
  · rw [sumTo_bump (f := ex) (t := t) S.n ht (fun a _ hne => upd_other _ _ hne) (upd_same _ _ _)]
    omega
  · rw [upd_other _ _ (fun e => by subst e; omega)]
    exact h.low a ha hz
  · by_cases e : a = t
    · subst e
      refine ⟨n2, by rw [upd_same]; omega, fun y l hy hb => ?_⟩
      rw [upd_same] at hb ⊢
      rw [hst.here] at hy
      split at hy
      · cases hy
      · have : x = y := by simpa using (List.cons.inj hy).1
        subst this
        rw [hst.left]
        omega
    · rw [upd_other _ _ e, upd_other _ _ e, hst.other a e, (n1 a e).1]
      exact h.used a ha hz
  · by_cases e : a = t
    · subst e
      rw [upd_same, hst.here]
      intro hb
      have : dn = false := by simpa using hb
      rw [this]
      simp
    · rw [upd_other _ _ e, hst.other a e]
      exact h.run a ha hz
  · by_cases e : a = t
    · subst e
      exact ⟨n4, fun g => by have := n5 g; omega⟩
    · rw [(n1 a e).1, (n1 a e).2]
      have := h.many a ha hz
      exact ⟨this.1, fun g => by have := this.2 g; omega⟩
  · by_cases e : a = t
    · subst e
      rw [upd_same, hst.here]
      intro hb y hy
      have : dn = true := by simpa using hb
      rw [this] at hy
      simp at hy
    · rw [upd_other _ _ e, hst.other a e, (n1 a e).2]
      exact h.wait a ha hz
  · rw [hst.last]
    by_cases e : a = t
    · subst e
      rcases n6 with g | g
      · exact .inl (by omega)
      · exact .inr ⟨hst.more, g⟩
    · rw [hst.other a e, hst.same a e, (n1 a e).2]
      rcases h.next a ha hz with g | g
      · exact .inl (by omega)
      · exact .inr g
  · by_cases e : a = t
    · subst e
      rw [hst.here]
      intro y hy
      split at hy
      · cases hy
      · have : y = x := by simpa using hy
        rw [this, hst.rel]
        exact h.young a ha hz j hmem
    · rw [hst.other a e]
      exact h.young a ha hz
  · have e1 : a ≠ t := fun e => by subst e; omega
    rw [hst.other a e1] at hqa
    exact h.sect a y l r k e ha hza hr hcr hqa hcl hk he
  · by_cases e : i = t
    · subst e
      rw [upd_same, hnd rfl]
      rcases n7 rfl with g | g
      · exact .inl g
      · exact .inr ⟨g, rfl⟩
    · rw [(n1 i e).1, upd_other _ _ e]
      exact h.own

/-- A level behind a tick in which task t runs. -/
theorem lv_tickAt {S : Sy} {W B : Nat → Int} {m : Mc} {i t : Nat} {s : Int} {ex N nb : Nat → Int} {bl : Int} {st : Nat → Bool} {j : Jb} (hs : SyOk S) (hb : Bd S W B) (ho : Ok S m) (hn : m.now < 1000000000000000000) (hl : LkInv S m) (hq : QInv S m) (h : Lv S W B m i s ex N nb bl st) (hi : i < S.n) (ht : t < S.n) (hqt : m.q t = [j]) (hrel : j.rel ≤ m.now) (hc : (chTo S m S.n).1 = (t : Int)) :
    QInv S (tickAt S m t j []).1 ∧ ∃ s' ex' N' nb' bl' st', Lv S W B (tickAt S m t j []).1 i s' ex' N' nb' bl' st' := by
  have hj := (ho.job t ht j (by rw [hqt]; simp)).1
  obtain ⟨x, dn, hst, _⟩ := stp_of (m := m) hj
  have ho' := ok_tickAt ho hn ht hqt
  have hl' := lk_tickAt hs ho hl ht hqt hrel hc
  have hq' := q_stp hq hqt hst
  refine ⟨hq', ?_⟩
  by_cases hqu : Quiet S (tickAt S m t j []).1 i
  · exact ⟨_, _, _, _, _, _, lv_quiet hs hb hl' hq' hi hqu⟩
  · have hex : ∃ a y, a < S.n ∧ S.Z i ≤ S.Z a ∧ y ∈ (tickAt S m t j []).1.q a ∧ y.rel < (tickAt S m t j []).1.now := Classical.byContradiction fun hno => hqu (fun a ha hz y hy => by
      rcases Int.lt_or_le y.rel (tickAt S m t j []).1.now with g | g
      · exact absurd ⟨a, y, ha, hz, hy, g⟩ hno
      · exact g)
    obtain ⟨a, y, ha, hza, hy, hyr⟩ := hex
    rw [hst.now] at hyr
    have hlen := h.len
    have hnow := hst.now
    have hready : a ≠ t → readyB m a = true := fun e => by
      rw [hst.other a e] at hy
      exact ready_of hq ha hy (by omega)
    have hwhose : S.Z i ≤ S.Z t ∨ ∃ r, r < 8 ∧ m.hold r = (t : Int) ∧ S.Z i ≤ S.C r := by
      by_cases e : a = t
      · subst e; exact .inl hza
      · exact tick_whose hc ha hza (hready e)
    by_cases hzt : S.Z i ≤ S.Z t
    · have hnd : t = i → dn = false := fun e => by
        cases hdn : dn with
        | false => rfl
        | true =>
          exfalso
          subst e
          have hne : a ≠ t := fun e => by
            subst e
            rw [hst.here, hdn] at hy
            simp at hy
          have hfin := hst.fin hdn
          rw [hst.run] at hfin
          have := done_top hs hl hj hqt hfin hc ha (hready hne)
          exact hne (hs.inj a t ha ht (by omega))
      obtain ⟨ex', N', nb', st', hv⟩ := lv_level hs ho hl hq h hi ht hqt hrel hst hzt hnd
      exact ⟨s, ex', N', nb', bl, st', hv.tight hs hb ho' hi (by omega)⟩
    · rcases hwhose with g | ⟨r0, hr0, hh, hc0⟩
      · exact absurd g hzt
      · have hv := lv_low hs ho hl h ht hqt hc hst (by omega) hr0 hh hc0
        exact ⟨s, ex, N, nb, bl + 1, st, hv.tight hs hb ho' hi (by omega)⟩

end Go.Proofs.YtdabcflpcklfiaaGreat.Cad

/- Plain mathematics: with bounds for all tasks no job is ever older than its bound (P11), whatever comes. -/
namespace Go.Proofs.YtdabcflpcklfiaaGreat.Cad

structure TInv (S : Sy) (W B : Nat → Int) (m : Mc) : Prop where
  lk : LkInv S m
  q : QInv S m
  lv : ∀ i, i < S.n → ∃ s ex N nb bl st, Lv S W B m i s ex N nb bl st

/-- A job that is not done is younger than its bound. -/
theorem TInv.young {S : Sy} {W B : Nat → Int} {m : Mc} (h : TInv S W B m) {i : Nat} (hi : i < S.n) {x : Jb} (hx : x ∈ m.q i) : m.now < x.arr + S.J i + W i := by
  obtain ⟨s, ex, N, nb, bl, st, hv⟩ := h.lv i hi
  exact hv.young_of h.q hi hx

theorem t_start {S : Sy} {W B : Nat → Int} (hs : SyOk S) (hb : Bd S W B) : TInv S W B start := by
  have hq : QInv S start := ⟨fun t _ => by simp [start], fun t _ x hx => by simp [start] at hx⟩
  exact ⟨lk_start S, hq, fun i hi => ⟨_, _, _, _, _, _, lv_quiet hs hb (lk_start S) hq hi (fun j _ _ x hx => by simp [start] at hx)⟩⟩

theorem t_tick {S : Sy} {W B : Nat → Int} {m : Mc} (hs : SyOk S) (hb : Bd S W B) (ho : Ok S m) (hn : m.now < 1000000000000000000) (h : TInv S W B m) : TInv S W B (tick S m).1 := by
  have hl' := lk_tick hs ho h.lk
  rcases tick_cases S m with ⟨hc, e⟩ | ⟨t, j, l, ht, hqt, hrel, hc, e⟩
  · have hq' : QInv S (tick S m).1 := by
      rw [e]; exact ⟨h.q.one, h.q.arrl⟩
    refine ⟨hl', hq', fun i hi => ⟨_, _, _, _, _, _, lv_quiet hs hb hl' hq' hi ?_⟩⟩
    intro a ha hz x hx
    rw [e] at hx ⊢
    have hx' : x ∈ m.q a := hx
    show m.now + 1 ≤ x.rel
    rcases Int.lt_or_le m.now x.rel with g | g
    · omega
    · exfalso
      have hr := ready_of h.q ha hx' g
      have h1 := chTo_max S m S.n a ha hr
      have h2 := rank_range ho ha m.hold
      rcases chTo_range S m S.n with ⟨_, h3⟩ | ⟨t, _, h3, _⟩
      · omega
      · omega
  · have hl0 : l = [] := by
      have := h.q.one t ht
      rw [hqt] at this
      simp only [List.length_cons] at this
      exact List.eq_nil_of_length_eq_zero (by omega)
    subst hl0
    have hk : ∀ i, i < S.n → QInv S (tickAt S m t j []).1 ∧ ∃ s' ex' N' nb' bl' st', Lv S W B (tickAt S m t j []).1 i s' ex' N' nb' bl' st' := fun i hi => by
      obtain ⟨s, ex, N, nb, bl, st, hv⟩ := h.lv i hi
      exact lv_tickAt hs hb ho hn h.lk h.q hv hi ht hqt hrel hc
    rw [e] at hl' ⊢
    exact ⟨hl', (hk t ht).1, fun i hi => (hk i hi).2⟩

theorem refuse_no {S : Sy} {m : Mc} {t : Nat} {jit : Int} {D : Nat → Int} {d : Nat} (h : refuse S m t jit D d = 0) : ¬ (0 < m.done t + (m.q t).length ∧ m.now - m.last t < S.P t) ∧ 0 ≤ jit ∧ jit ≤ S.J t ∧ Fits (S.K t) (S.N t) (S.L t) D d := by
  unfold refuse at h
  split at h
  · cases h
  · split at h
    · cases h
    · split at h
      · cases h
      · rename_i h1 h2 h3
        exact ⟨h1, by omega, by omega, Classical.byContradiction (fun hf => h3 ((fitsB_false _ _ _ _ _).mpr hf))⟩

/-- When a job may come, the one before is done. -/
theorem TInv.empty {S : Sy} {W B : Nat → Int} {m : Mc} (hb : Bd S W B) (h : TInv S W B m) {t : Nat} (ht : t < S.n) (hn : ¬ (0 < m.done t + (m.q t).length ∧ m.now - m.last t < S.P t)) : m.q t = [] := by
  cases hq : m.q t with
  | nil => rfl
  | cons x l =>
    exfalso
    have hx : x ∈ m.q t := by rw [hq]; simp
    have h1 := h.young ht hx
    have h2 := (h.q.arrl t ht x hx).1
    have h3 := hb.fits t ht
    refine hn ⟨?_, by omega⟩
    rw [hq]
    simp only [List.length_cons]
    omega

theorem lv_added {S : Sy} {W B : Nat → Int} {m : Mc} {i t : Nat} {s : Int} {ex N nb : Nat → Int} {bl : Int} {st : Nat → Bool} {jit : Int} {D : Nat → Int} (h : Lv S W B m i s ex N nb bl st) (hqt : m.q t = []) (h0 : 0 ≤ jit) (hn : ¬ (0 < m.done t + (m.q t).length ∧ m.now - m.last t < S.P t)) : Lv S W B (added S m t jit D) i s ex N nb bl st := by
  have hqs : (added S m t jit D).q t = [jobOf S m t jit D] := by
    show upd m.q t (m.q t ++ [jobOf S m t jit D]) t = _
    rw [upd_same, hqt]; rfl
  have hqo : ∀ a, a ≠ t → (added S m t jit D).q a = m.q a := fun a ha => upd_other _ _ ha
  have hnb : t < S.n → S.Z i ≤ S.Z t → nb t ≤ m.now := fun ht hz => by
    rcases h.next t ht hz with g | ⟨g1, g2⟩
    · exact g
    · rcases Int.lt_or_le (m.now - m.last t) (S.P t) with g3 | g3
      · exact absurd ⟨g1, g3⟩ hn
      · omega
  have hns : t < S.n → S.Z i ≤ S.Z t → st t = true → False := fun ht hz hb => h.run t ht hz hb hqt
  refine ⟨h.before, h.sum, h.len, h.low, fun a ha hz => ?_, fun a ha hz => ?_, h.many, fun a ha hz => ?_, fun a ha hz => ?_, fun a ha hz => ?_, h.bl0, h.bl1, fun a y l r k e ha hza hr hcr hqa hcl hk he => ?_, h.own⟩
  · by_cases e : a = t
    · subst e
      exact ⟨(h.used a ha hz).1, (h.used a ha hz).2.1, fun _ _ _ hb => (hns ha hz hb).elim⟩
    · rw [hqo a e]; exact h.used a ha hz
  · by_cases e : a = t
    · subst e
      exact fun hb => (hns ha hz hb).elim
    · rw [hqo a e]; exact h.run a ha hz
  · by_cases e : a = t
    · subst e
      rw [hqs]
      intro _ x hx
      have : x = jobOf S m a jit D := by simpa using hx
      rw [this]
      exact hnb ha hz
    · rw [hqo a e]; exact h.wait a ha hz
  · by_cases e : a = t
    · subst e
      exact .inl (hnb ha hz)
    · rw [hqo a e]
      show nb a ≤ m.now ∨ (0 < m.done a + (m.q a).length ∧ nb a ≤ upd m.last t m.now a + S.P a)
      rw [upd_other _ _ e]
      exact h.next a ha hz
  · by_cases e : a = t
    · subst e
      rw [hqs]
      intro x hx
      have : x = jobOf S m a jit D := by simpa using hx
      rw [this]
      have := h.before
      show s ≤ m.now + jit
      omega
    · rw [hqo a e]; exact h.young a ha hz
  · by_cases e1 : a = t
    · subst e1
      rw [hqs] at hqa
      have : jobOf S m a jit D = y := by simpa using (List.cons.inj hqa).1
      rw [← this] at hk
      have hk' : k < 0 := hk
      omega
    · rw [hqo a e1] at hqa
      exact h.sect a y l r k e ha hza hr hcr hqa hcl hk he

theorem t_added {S : Sy} {W B : Nat → Int} {m : Mc} (hb : Bd S W B) (h : TInv S W B m) {t : Nat} (ht : t < S.n) {jit : Int} {D : Nat → Int} {d : Nat} (hr : refuse S m t jit D d = 0) : TInv S W B (added S m t jit D) := by
  obtain ⟨h1, h2, h3, h4⟩ := refuse_no hr
  have hqt := h.empty hb ht h1
  refine ⟨lk_added h.lk ht h4, ⟨fun a ha => ?_, fun a ha x hx => ?_⟩, fun i hi => ?_⟩
  · show (upd m.q t (m.q t ++ [jobOf S m t jit D]) a).length ≤ 1
    by_cases e : a = t
    · subst e; rw [upd_same, hqt]; simp
    · rw [upd_other _ _ e]; exact h.q.one a ha
  · have hx' : x ∈ upd m.q t (m.q t ++ [jobOf S m t jit D]) a := hx
    show x.arr ≤ upd m.last t m.now a ∧ _
    by_cases e : a = t
    · subst e
      rw [upd_same, hqt] at hx'
      have : x = jobOf S m a jit D := by simpa using hx'
      rw [this, upd_same]
      refine ⟨Int.le_refl _, ?_, ?_⟩
      · show m.now + jit ≤ m.now + S.J a; omega
      · show m.now ≤ m.now + jit; omega
    · rw [upd_other _ _ e] at hx' ⊢
      exact h.q.arrl a ha x hx'
  · obtain ⟨s, ex, N, nb, bl, st, hv⟩ := h.lv i hi
    exact ⟨s, ex, N, nb, bl, st, lv_added hv hqt h2 h1⟩

theorem t_arrive {S : Sy} {W B : Nat → Int} {m : Mc} (hb : Bd S W B) (h : TInv S W B m) (x jit : Int) (D : Nat → Int) (d : Nat) : TInv S W B (arrive S m x jit D d).1 := by
  unfold arrive
  split
  · exact h
  · rename_i hx
    split
    · exact h
    · rename_i hr
      exact t_added hb h (by omega) (Classical.byContradiction hr)

/-- Nothing is ever full. -/
theorem TInv.not_full {S : Sy} {W B : Nat → Int} {m : Mc} (h : TInv S W B m) {t : Nat} (ht : t < S.n) (jit : Int) (D : Nat → Int) (d : Nat) : refuse S m t jit D d ≠ 9 := by
  have := h.q.one t ht
  unfold refuse
  split
  · decide
  · split
    · decide
    · split
      · decide
      · split
        · omega
        · decide

end Go.Proofs.YtdabcflpcklfiaaGreat.Cad

/- The bounds that Analyze finds are bounds of the machine of numbers. -/
namespace Go.Proofs.YtdabcflpcklfiaaGreat
open Go.RowKit Cad

theorem ceilK_spec {K N : Nat → Int} {z : Int} {c : Nat → Int} : ∀ k, (∀ r, c r ≤ ceilK K N z c k r) ∧ (∀ q, q < k → K q = 2 → z ≤ ceilK K N z c k (N q).toNat) ∧ (∀ r, ceilK K N z c k r = c r ∨ (ceilK K N z c k r = z ∧ ∃ q, q < k ∧ K q = 2 ∧ (N q).toNat = r))
  | 0 => ⟨fun _ => Int.le_refl _, fun q hq => by omega, fun _ => .inl rfl⟩
  | k + 1 => by
    obtain ⟨i1, i2, i3⟩ := ceilK_spec (K := K) (N := N) (z := z) (c := c) k
    unfold ceilK
    by_cases h : K k = 2
    · rw [if_pos h]
      refine ⟨fun r => ?_, fun q hq h2 => ?_, fun r => ?_⟩
      · unfold upd
        split
        · rename_i e
          have := i1 r
          rw [e] at this
          rw [e]
          omega
        · exact i1 r
      · unfold upd
        split
        · omega
        · rename_i e
          by_cases g : q = k
          · subst g; exact absurd rfl e
          · exact i2 q (by omega) h2
      · unfold upd
        split
        · rename_i e
          rcases Int.le_total (ceilK K N z c k (N k).toNat) z with g | g
          · exact .inr ⟨by omega, k, by omega, h, e.symm⟩
          · rcases i3 r with g2 | ⟨g2, q, g3, g4, g5⟩
            · left; rw [← g2, e]; omega
            · right; exact ⟨by rw [e] at g2; omega, q, by omega, g4, g5⟩
        · rcases i3 r with g2 | ⟨g2, q, g3, g4, g5⟩
          · exact .inl g2
          · exact .inr ⟨g2, q, by omega, g4, g5⟩
    · rw [if_neg h]
      refine ⟨i1, fun q hq h2 => ?_, fun r => ?_⟩
      · by_cases g : q = k
        · subst g; exact absurd h2 h
        · exact i2 q (by omega) h2
      · rcases i3 r with g2 | ⟨g2, q, g3, g4, g5⟩
        · exact .inl g2
        · exact .inr ⟨g2, q, by omega, g4, g5⟩

theorem ceilI_spec {K N : Nat → Nat → Int} {L : Nat → Nat} {Z : Nat → Int} : ∀ n, (∀ t q, t < n → q < L t → K t q = 2 → Z t ≤ ceilI K N L Z n (N t q).toNat) ∧ (∀ r, ceilI K N L Z n r = 0 ∨ ∃ t q, t < n ∧ q < L t ∧ K t q = 2 ∧ (N t q).toNat = r ∧ ceilI K N L Z n r = Z t)
  | 0 => ⟨fun t q ht => by omega, fun _ => .inl rfl⟩
  | n + 1 => by
    obtain ⟨i1, i2⟩ := ceilI_spec (K := K) (N := N) (L := L) (Z := Z) n
    obtain ⟨k1, k2, k3⟩ := ceilK_spec (K := K n) (N := N n) (z := Z n) (c := ceilI K N L Z n) (L n)
    refine ⟨fun t q ht hq h2 => ?_, fun r => ?_⟩
    · by_cases e : t = n
      · subst e; exact k2 q hq h2
      · have h1 := i1 t q (by omega) hq h2
        have h3 := k1 (N t q).toNat
        show Z t ≤ ceilK (K n) (N n) (Z n) (ceilI K N L Z n) (L n) (N t q).toNat
        omega
    · rcases k3 r with g | ⟨g, q, g1, g2, g3⟩
      · rcases i2 r with e | ⟨t, q, e1, e2, e3, e4, e5⟩
        · exact .inl (g.trans e)
        · exact .inr ⟨t, q, by omega, e2, e3, e4, g.trans e5⟩
      · exact .inr ⟨n, q, by omega, g1, g2, g3, g⟩

theorem syok_of {T : TD} {Z : Nat → Int} {n : Nat} (hG : Good T n) (hp : PrioB Z n) : SyOk (sysOf T Z n) :=
  ⟨hG.prog, hp.2, fun t k ht hk h2 => (ceilI_spec n).1 t k ht hk h2⟩

theorem inter_alike {P J dm : Nat → Int} {h1 h2 : Nat → Bool} {w : Int} : ∀ m, (∀ j, j < m → h1 j = h2 j) → inter P J dm h1 w m = inter P J dm h2 w m
  | 0, _ => rfl
  | m + 1, h => by
    unfold inter
    rw [inter_alike m (fun j hj => h j (by omega)), h m (by omega)]

/-- What a bound above 0 is. -/
def BndOf (S : Sy) (R : Int) (D : Int) (i : Nat) (b : Int) : Prop :=
  IsMax (SCode S.K S.N S.L S.Z S.n i) b ∧ 1 ≤ R - S.J i ∧ R ≤ D ∧ dmS S i + b + inter S.P S.J (dmS S) (fun j => decide (S.Z i < S.Z j)) (R - S.J i) S.n = R - S.J i ∧
  ∀ u, 1 ≤ u → u < R - S.J i → dmS S i + b + inter S.P S.J (dmS S) (fun j => decide (S.Z i < S.Z j)) u S.n ≠ u

theorem bnd_of {T : TD} {Z : Nat → Int} {n i : Nat} {R : Int} (_hi : i < n) (hR : CodeB T Z n i R) (h0 : 0 < R) : ∃ b, BndOf (sysOf T Z n) R (T.D i) i b := by
  obtain ⟨s, hs, hb⟩ := hR
  have hm : IsMax (SCode T.K T.N T.L Z n i) s := BcTo.fin (fun a ha => by
    unfold withI abv
    by_cases e : a = i
    · rw [if_pos e]; simp [e]
    · rw [if_neg e, if_pos ha]; simp [e]) hs
  have hc : ∀ u, inter T.P T.J T.dm (abv Z n i) u n = inter T.P T.J T.dm (fun j => decide (Z i < Z j)) u n := fun u => inter_alike n (fun j hj => by unfold abv; rw [if_pos hj])
  rcases hb with ⟨w, h1, h2, h3, h4, h5⟩ | ⟨e, _⟩
  · have ew : R - T.J i = w := by omega
    refine ⟨s, hm, ?_, ?_, ?_, fun u hu1 hu2 => ?_⟩
    · show 1 ≤ R - T.J i; omega
    · omega
    · show T.dm i + s + inter T.P T.J T.dm (fun j => decide (Z i < Z j)) (R - T.J i) n = R - T.J i
      rw [← hc, ew]; exact h3
    · show T.dm i + s + inter T.P T.J T.dm (fun j => decide (Z i < Z j)) u n ≠ u
      rw [← hc]
      exact h4 u hu1 (by have : u < R - T.J i := hu2; omega)
  · omega

theorem bd_of {T : TD} {Z R : Nat → Int} {n : Nat} (hG : Good T n) (hp : PrioB Z n) (hR : ∀ i, i < n → CodeB T Z n i (R i)) (h0 : ∀ i, i < n → 0 < R i) :
    ∃ B, Bd (sysOf T Z n) (fun i => R i - T.J i) B ∧ ∀ i, i < n → BndOf (sysOf T Z n) (R i) (T.D i) i (B i) := by
  have hx : ∀ i, ∃ b, i < n → BndOf (sysOf T Z n) (R i) (T.D i) i b := fun i => by
    by_cases h : i < n
    · obtain ⟨b, hb⟩ := bnd_of h (hR i h) (h0 i h)
      exact ⟨b, fun _ => hb⟩
    · exact ⟨0, fun g => absurd g h⟩
  obtain ⟨B, hB⟩ := Classical.axiomOfChoice hx
  refine ⟨B, ⟨fun t ht => ?_, fun i hi => (hB i hi).2.1, fun i hi => Int.le_of_eq (hB i hi).2.2.2.1, fun i hi => ?_, fun i hi => (hB i hi).1.1, fun i a r k hi ha hr hz hc hk h2 hn => ?_⟩, hB⟩
  · have := hG.times t ht
    exact ⟨this.1, this.2.2.2.2.1⟩
  · have h1 := (hB i hi).2.2.1
    have h2 := hG.times i hi
    show R i - T.J i + T.J i ≤ T.P i
    omega
  · have hi' : i < n := hi
    have ha' : a < n := ha
    have hz' : Z a < Z i := hz
    have hza := hp.1 a ha'
    refine (hB i hi).1.2.2 _ ⟨a, (r : Int), ha, ?_, by omega, by omega, ?_, rfl⟩
    · rintro (g | g)
      · have g' : Z i < Z a := g
        omega
      · subst g; omega
    · have hc' : Z i ≤ ceilI T.K T.N T.L Z n r := hc
      rcases (ceilI_spec (K := T.K) (N := T.N) (L := T.L) (Z := Z) n).2 r with e | ⟨t, q, e1, e2, e3, e4, e5⟩
      · omega
      · refine ⟨t, e1, ?_, (lon_pos_iff (hG.prog t e1)).2 ⟨q, e2, e3, ?_⟩⟩
        · by_cases g : t = i
          · exact .inr g
          · left
            show Z i < Z t
            rcases Int.lt_or_le (Z i) (Z t) with g2 | g2
            · exact g2
            · exact absurd (hp.2 t i e1 hi' (by omega)) g
        · rcases (progB_inv (hG.prog t e1)).2.2.2.steps q e2 with g | g | g
          · omega
          · omega
          · omega

end Go.Proofs.YtdabcflpcklfiaaGreat

/- Whether all bounds are above 0; whether anybody locks. -/
namespace Go.Proofs.YtdabcflpcklfiaaGreat
open Go.RowKit Cad

end Go.Proofs.YtdabcflpcklfiaaGreat
