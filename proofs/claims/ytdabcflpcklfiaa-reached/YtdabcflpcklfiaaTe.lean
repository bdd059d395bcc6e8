import Derived.Test.YtdabcflpcklfiaaTd
/- Plain mathematics: the busy time of a level: no job is older than its bound. -/
namespace Go.Proofs.Ytdabcflpcklfiaa.Cad

def dmS (S : Sy) (t : Nat) : Int := demTo (S.K t) (S.N t) (S.L t)

/-- Bounds for all tasks. -/
structure Bd (S : Sy) (W B : Nat → Int) : Prop where
  per : ∀ t, t < S.n → 1 ≤ S.P t ∧ 0 ≤ S.J t
  pos : ∀ i, i < S.n → 1 ≤ W i
  fix : ∀ i, i < S.n → dmS S i + B i + inter S.P S.J (dmS S) (fun j => decide (S.Z i < S.Z j)) (W i) S.n ≤ W i
  fits : ∀ i, i < S.n → W i + S.J i ≤ S.P i
  blk0 : ∀ i, i < S.n → 0 ≤ B i
  blk : ∀ i a r k, i < S.n → a < S.n → r < 8 → S.Z a < S.Z i → S.Z i ≤ S.C r → k < S.L a → S.K a k = 2 → S.N a k = (r : Int) → lonTo (S.K a) (S.N a) (r : Int) (S.L a) ≤ B i

structure QInv (S : Sy) (m : Mc) : Prop where
  one : ∀ t, t < S.n → (m.q t).length ≤ 1
  arrl : ∀ t, t < S.n → ∀ x ∈ m.q t, x.arr ≤ m.last t ∧ x.rel ≤ x.arr + S.J t ∧ x.arr ≤ x.rel

/-- A level since it was last quiet. -/
structure Lv (S : Sy) (W B : Nat → Int) (m : Mc) (i : Nat) (s : Int) (ex N nb : Nat → Int) (bl : Int) (st : Nat → Bool) : Prop where
  before : s ≤ m.now
  sum : m.now - s = sumTo ex S.n + bl
  len : m.now - s < W i
  low : ∀ j, j < S.n → S.Z j < S.Z i → ex j = 0
  used : ∀ j, j < S.n → S.Z i ≤ S.Z j → 0 ≤ N j ∧ ex j ≤ dmS S j * N j ∧ (∀ x l, m.q j = x :: l → st j = true → ex j + x.left ≤ dmS S j * N j)
  run : ∀ j, j < S.n → S.Z i ≤ S.Z j → st j = true → m.q j ≠ []
  many : ∀ j, j < S.n → S.Z i ≤ S.Z j → N j * S.P j ≤ nb j - s + S.J j ∧ (1 ≤ N j → nb j ≤ m.now - 1 + S.P j)
  wait : ∀ j, j < S.n → S.Z i ≤ S.Z j → st j = false → ∀ x ∈ m.q j, nb j ≤ x.arr
  next : ∀ j, j < S.n → S.Z i ≤ S.Z j → nb j ≤ m.now ∨ (0 < m.done j + (m.q j).length ∧ nb j ≤ m.last j + S.P j)
  young : ∀ j, j < S.n → S.Z i ≤ S.Z j → ∀ x ∈ m.q j, s ≤ x.rel
  bl0 : 0 ≤ bl
  bl1 : bl ≤ B i
  sect : ∀ a x l r k e, a < S.n → S.Z a < S.Z i → r < 8 → S.Z i ≤ S.C r → m.q a = x :: l → Closed (S.K a) (S.N a) (r : Int) k e (S.L a) → k < x.p → x.p ≤ e → bl + (demTo (S.K a) x.N e - demTo (S.K a) x.N x.p) ≤ B i
  own : N i = 0 ∨ (N i = 1 ∧ st i = true)

/-- A job that is not done is younger than its bound. -/
theorem Lv.young_of {S : Sy} {W B : Nat → Int} {m : Mc} {i : Nat} {s : Int} {ex N nb : Nat → Int} {bl : Int} {st : Nat → Bool} (hq : QInv S m) (h : Lv S W B m i s ex N nb bl st) (hi : i < S.n) {x : Jb} (hx : x ∈ m.q i) : m.now < x.arr + S.J i + W i := by
  have h1 := h.young i hi (Int.le_refl _) x hx
  have h2 := h.len
  have h3 := (hq.arrl i hi x hx).2.1
  omega

def Quiet (S : Sy) (m : Mc) (i : Nat) : Prop := ∀ j, j < S.n → S.Z i ≤ S.Z j → ∀ x ∈ m.q j, m.now ≤ x.rel

/-- Where a level is quiet it begins anew. -/
theorem lv_quiet {S : Sy} {W B : Nat → Int} {m : Mc} {i : Nat} (hs : SyOk S) (hb : Bd S W B) (hl : LkInv S m) (hq : QInv S m) (hi : i < S.n) (h : Quiet S m i) :
    Lv S W B m i m.now (fun _ => 0) (fun _ => 0) (fun j => m.now - S.J j) 0 (fun _ => false) := by
  have hp := hb.pos i hi
  refine ⟨Int.le_refl _, ?_, by omega, fun _ _ _ => rfl, fun j _ _ => ⟨Int.le_refl _, by simp, fun _ _ _ e => (by cases e)⟩, fun _ _ _ e => (by cases e), fun j hj _ => ⟨by have := hb.per j hj; simp; omega, fun e => by omega⟩, fun j hj hz _ x hx => ?_, fun j hj _ => .inl (by have := hb.per j hj; omega), h, Int.le_refl _, hb.blk0 i hi, fun a x l r k e ha hza hr hc hqa hcl hk he => ?_, .inl rfl⟩
  · rw [sumTo_zero]; omega
  · have h1 := h j hj hz x hx
    have h2 := (hq.arrl j hj x hx).2.1
    omega
  · have h1 := rem_le (S := S) (t := a) (j := x) (hs.prog a ha) (fun k hk h1 => (hl.num a ha x (by rw [hqa]; simp) k hk).2 h1) hcl hk he
    have h2 := hb.blk i a r k hi ha hr hza hc (by have := hcl.1; have := hcl.2.1; omega) hcl.2.2.1 hcl.2.2.2.1
    omega

/-! ### a job's tick -/

theorem run_rem {K : Nat → Int} {L t : Nat} {h : Nat → Int} {j : Jb} (hj : JbOk K L j) {e : Nat} (h1 : skip K 2 L j.p < e) (h2 : (runK K L t h j).2.p ≤ e) :
    demTo K (runK K L t h j).2.N e - demTo K (runK K L t h j).2.N (runK K L t h j).2.p = demTo K j.N e - demTo K j.N j.p - 1 := by
  obtain ⟨p1, hp1⟩ : ∃ p1, p1 = skip K 2 L j.p := ⟨_, rfl⟩
  have hsp := skip_spec K 2 (L := L) (p := j.p) (by have := hj.lt; omega)
  have hsl := skipLt hj
  rw [← hp1] at hsp hsl h1
  have hn := hj.comp p1 hsp.1 hsl.1 hsl.2
  have hflat : demTo K j.N p1 = demTo K j.N j.p := by
    obtain ⟨d, hd⟩ : ∃ d, p1 = j.p + d := ⟨p1 - j.p, by omega⟩
    rw [hd]
    exact dem_flat d (fun i h1 h2 => by rw [hsp.2.2.1 i h1 (by omega)]; decide)
  have hstep : demTo K j.N (p1 + 1) = demTo K j.N p1 + j.N p1 := by rw [demTo, if_pos hsl.2]
  revert h2
  unfold runK
  simp only []
  rw [← hp1]
  by_cases hx : 0 < j.N p1 - 1
  · rw [if_pos hx]
    intro h2
    show demTo K (upd j.N p1 (j.N p1 - 1)) e - demTo K (upd j.N p1 (j.N p1 - 1)) p1 = _
    rw [dem_upd hsl.2, dem_upd hsl.2, if_pos h1, if_neg (Nat.lt_irrefl _), hflat]
    omega
  · rw [if_neg hx]
    intro h2
    obtain ⟨p2, hp2⟩ : ∃ p2, p2 = skip K 3 L (p1 + 1) := ⟨_, rfl⟩
    have hs2 := skip_spec K 3 (L := L) (p := p1 + 1) (by omega)
    rw [← hp2] at hs2 h2 ⊢
    have hflat2 : demTo K j.N p2 = demTo K j.N (p1 + 1) := by
      obtain ⟨d, hd⟩ : ∃ d, p2 = p1 + 1 + d := ⟨p2 - (p1 + 1), by omega⟩
      rw [hd]
      exact dem_flat d (fun i h1 h2 => by rw [hs2.2.2.1 i h1 (by omega)]; decide)
    show demTo K (upd j.N p1 (j.N p1 - 1)) e - demTo K (upd j.N p1 (j.N p1 - 1)) p2 = _
    rw [dem_upd hsl.2, dem_upd hsl.2, if_pos h1, if_pos (by omega), hflat2, hstep, hflat]
    omega

/-- Where a job stands behind its tick, against the Compute that it was in. -/
theorem run_place {K : Nat → Int} {L t : Nat} {h : Nat → Int} {j : Jb} (hj : JbOk K L j) : skip K 2 L j.p ≤ (runK K L t h j).2.p ∧ (∀ k, skip K 2 L j.p < k → k < (runK K L t h j).2.p → K k = 3) := by
  have hsl := skipLt hj
  unfold runK
  simp only []
  by_cases hx : 0 < j.N (skip K 2 L j.p) - 1
  · rw [if_pos hx]
    refine ⟨Nat.le_refl _, fun k h1 h2 => ?_⟩
    have h2' : k < skip K 2 L j.p := h2
    omega
  · rw [if_neg hx]
    have hs2 := skip_spec K 3 (L := L) (p := skip K 2 L j.p + 1) (by omega)
    refine ⟨?_, fun k h1 h2 => hs2.2.2.1 k (by omega) h2⟩
    show skip K 2 L j.p ≤ skip K 3 L (skip K 2 L j.p + 1)
    omega

/-- In a section there is something left to do. -/
theorem rem_pos {K N : Nat → Int} {L k e : Nat} {r : Int} {j : Jb} (hj : JbOk K L j) (hc : Closed K N r k e L) (he : j.p ≤ e) : skip K 2 L j.p < e ∧ 1 ≤ demTo K j.N e - demTo K j.N j.p := by
  have hsp := skip_spec K 2 (L := L) (p := j.p) (by have := hj.lt; omega)
  have hsl := skipLt hj
  have h3 := hc.2.2.2.2.1
  have hlt : skip K 2 L j.p < e := by
    rcases Nat.lt_trichotomy (skip K 2 L j.p) e with g | g | g
    · exact g
    · rw [← g] at h3; omega
    · have := hsp.2.2.1 e he g; omega
  refine ⟨hlt, ?_⟩
  have hn := hj.comp _ hsp.1 hsl.1 hsl.2
  obtain ⟨d, hd⟩ : ∃ d, skip K 2 L j.p = j.p + d := ⟨skip K 2 L j.p - j.p, by omega⟩
  have h1 := (dem_diff (K := K) (N := j.N) (a := j.p) d (fun i a b => hj.comp i a (by omega))).1
  have h2 : demTo K j.N (skip K 2 L j.p + 1) = demTo K j.N (skip K 2 L j.p) + j.N (skip K 2 L j.p) := by rw [demTo, if_pos hsl.2]
  obtain ⟨d2, hd2⟩ : ∃ d2, e = skip K 2 L j.p + 1 + d2 := ⟨e - (skip K 2 L j.p + 1), by omega⟩
  have h4 := (dem_diff (K := K) (N := j.N) (a := skip K 2 L j.p + 1) d2 (fun i a b => hj.comp i (by omega) (by have := hc.2.1; omega))).1
  rw [← hd2] at h4
  rw [← hd] at h1
  omega

/-- What a section's rest is behind a tick in it. -/
theorem sect_tick {S : Sy} {B : Nat → Int} {i t : Nat} {j : Jb} {bl : Int} {h : Nat → Int} (hp : progB (S.K t) (S.N t) (S.L t) = true) (hj : JbOk (S.K t) (S.L t) j)
    (hsect : ∀ r k e, r < 8 → S.Z i ≤ S.C r → Closed (S.K t) (S.N t) (r : Int) k e (S.L t) → k < j.p → j.p ≤ e → bl + (demTo (S.K t) j.N e - demTo (S.K t) j.N j.p) ≤ B i)
    {r0 : Nat} (hr0 : r0 < 8) (hc0 : S.Z i ≤ S.C r0) (hin : Inside S t j.p r0) :
    bl + 1 ≤ B i ∧ ∀ r k e, r < 8 → S.Z i ≤ S.C r → Closed (S.K t) (S.N t) (r : Int) k e (S.L t) → k < (runK (S.K t) (S.L t) t h j).2.p → (runK (S.K t) (S.L t) t h j).2.p ≤ e →
      bl + 1 + (demTo (S.K t) (runK (S.K t) (S.L t) t h j).2.N e - demTo (S.K t) (runK (S.K t) (S.L t) t h j).2.N (runK (S.K t) (S.L t) t h j).2.p) ≤ B i := by
  obtain ⟨k0, e0, hcl0, hk0, he0⟩ := hin
  have hb0 := hsect r0 k0 e0 hr0 hc0 hcl0 hk0 he0
  obtain ⟨hlt0, hpos0⟩ := rem_pos hj hcl0 he0
  have hsp := skip_spec (S.K t) 2 (L := S.L t) (p := j.p) (by have := hj.lt; omega)
  have hsl := skipLt hj
  obtain ⟨hpl1, hpl2⟩ := run_place (t := t) (h := h) hj
  refine ⟨by omega, fun r k e hr hc hcl hk he => ?_⟩
  have hpe : j.p ≤ e := by omega
  obtain ⟨hlt, _⟩ := rem_pos hj hcl hpe
  rw [run_rem hj hlt he]
  rcases Nat.lt_or_ge k j.p with g | g
  · have := hsect r k e hr hc hcl g hpe
    omega
  · have hkp : k < skip (S.K t) 2 (S.L t) j.p := by
      have h2k := hcl.2.2.1
      rcases Nat.lt_trichotomy k (skip (S.K t) 2 (S.L t) j.p) with g1 | g1 | g1
      · exact g1
      · rw [← g1] at hsl; omega
      · have := hpl2 k g1 hk; omega
    have hle := nest hp hcl0 hcl (by omega) (by omega)
    obtain ⟨d, hd⟩ : ∃ d, e0 = e + d := ⟨e0 - e, by omega⟩
    have h4 := (dem_diff (K := S.K t) (N := j.N) (a := e) d (fun i a b => hj.comp i (by omega) (by have := hcl0.2.1; omega))).1
    rw [← hd] at h4
    omega

end Go.Proofs.Ytdabcflpcklfiaa.Cad
