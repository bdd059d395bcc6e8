import Derived.Test.YtdabcflpcklfiaaTf
/- Plain mathematics: what holds of a level is kept by ticks and arrivals. -/
namespace Go.Proofs.Ytdabcflpcklfiaa.Cad

/-- If a level's job waits behind a tick, then the tick was of the level, or in a section that is high enough. -/
theorem tick_whose {S : Sy} {m : Mc} {i t a : Nat} (hc : (chTo S m S.n).1 = (t : Int)) (ha : a < S.n) (hz : S.Z i ≤ S.Z a) (hr : readyB m a = true) :
    S.Z i ≤ S.Z t ∨ ∃ r, r < 8 ∧ m.hold r = (t : Int) ∧ S.Z i ≤ S.C r := by
  obtain ⟨_, _, hle⟩ := chosen_max hc ha hr
  obtain ⟨a1, a2, a3, a4, a5⟩ := act_spec S m.hold a 8
  obtain ⟨t1, t2, t3, t4, t5⟩ := act_spec S m.hold t 8
  unfold rank at hle
  have ha2 : 0 ≤ (actTo S m.hold a 8).2 := by
    by_cases c : ∃ r, r < 8 ∧ m.hold r = (a : Int)
    · rw [a4 c]; decide
    · rw [(a5 c).1]; exact Int.le_refl _
  by_cases c : ∃ r, r < 8 ∧ m.hold r = (t : Int)
  · have := t4 c
    rcases t3 with e | ⟨r, h1, h2, h3⟩
    · exact .inl (by omega)
    · exact .inr ⟨r, h1, h2, by omega⟩
  · have := t5 c
    exact .inl (by omega)

/-- Who is done outranks nobody that is ready and has a higher priority. -/
theorem done_top {S : Sy} {m : Mc} {t a : Nat} (hs : SyOk S) (hl : LkInv S m) {j : Jb} {l : List Jb} (hj : JbOk (S.K t) (S.L t) j) (hqt : m.q t = j :: l) (hd : (runK (S.K t) (S.L t) t m.hold j).2.p = S.L t) (hc : (chTo S m S.n).1 = (t : Int)) (ha : a < S.n) (hr : readyB m a = true) : S.Z a ≤ S.Z t := by
  obtain ⟨ht, _, hle⟩ := chosen_max hc ha hr
  obtain ⟨a1, a2, a3, a4, a5⟩ := act_spec S m.hold a 8
  obtain ⟨t1, t2, t3, t4, t5⟩ := act_spec S m.hold t 8
  have hno : ¬ ∃ r, r < 8 ∧ m.hold r = (t : Int) := fun ⟨r, h1, h2⟩ => by
    obtain ⟨j', l', h3, h4⟩ := (hl.iff r t h1 ht).1 h2
    rw [hqt] at h3
    cases h3
    exact last_free (hs.prog t ht) hj hd h4
  have := t5 hno
  unfold rank at hle
  have ha2 : 0 ≤ (actTo S m.hold a 8).2 := by
    by_cases c : ∃ r, r < 8 ∧ m.hold r = (a : Int)
    · rw [a4 c]; decide
    · rw [(a5 c).1]; exact Int.le_refl _
  omega

theorem lv_low {S : Sy} {W B : Nat → Int} {m m' : Mc} {i t : Nat} {s : Int} {ex N nb : Nat → Int} {bl : Int} {st : Nat → Bool} {j x : Jb} {dn : Bool} (hs : SyOk S) (ho : Ok S m) (hl : LkInv S m) (h : Lv S W B m i s ex N nb bl st) (ht : t < S.n) (hqt : m.q t = [j]) (hc : (chTo S m S.n).1 = (t : Int)) (hst : Stp S m m' t j x dn) (hzt : S.Z t < S.Z i) {r0 : Nat} (hr0 : r0 < 8) (hh : m.hold r0 = (t : Int)) (hc0 : S.Z i ≤ S.C r0) :
    Lv S (fun _ => m'.now - s + 1) B m' i s ex N nb (bl + 1) st := by
  have hj := (ho.job t ht j (by rw [hqt]; simp)).1
  have hin : Inside S t j.p r0 := by
    obtain ⟨j', l', h3, h4⟩ := (hl.iff r0 t hr0 ht).1 hh
    rw [hqt] at h3
    cases h3
    exact h4
  obtain ⟨b1, b2⟩ := sect_tick (h := m.hold) (hs.prog t ht) hj (fun r k e hr hcr hcl hk he => h.sect t j [] r k e ht hzt hr hcr hqt hcl hk he) hr0 hc0 hin
  have hne : ∀ a, S.Z i ≤ S.Z a → a ≠ t := fun a hz e => by subst e; omega
  have hnow := hst.now
  have h1 := h.before
  have h2 := h.sum
  have h3 := h.bl0
  refine ⟨by omega, by omega, by show _ < m'.now - s + 1; omega, h.low, fun a ha hz => ?_, fun a ha hz => ?_, fun a ha hz => ?_, fun a ha hz => ?_, fun a ha hz => ?_, fun a ha hz => ?_, by omega, b1, fun a y l r k e ha hza hr hcr hqa hcl hk he => ?_, h.own⟩
  · rw [hst.other a (hne a hz)]; exact h.used a ha hz
  · rw [hst.other a (hne a hz)]; exact h.run a ha hz
  · have := h.many a ha hz
    exact ⟨this.1, fun g => by have := this.2 g; omega⟩
  · rw [hst.other a (hne a hz)]; exact h.wait a ha hz
  · rw [hst.other a (hne a hz), hst.same a (hne a hz), hst.last]
    rcases h.next a ha hz with g | g
    · exact .inl (by omega)
    · exact .inr g
  · rw [hst.other a (hne a hz)]; exact h.young a ha hz
  · by_cases e1 : a = t
    · subst e1
      have hqa' := hqa
      rw [hst.here] at hqa'
      split at hqa'
      · cases hqa'
      · have : x = y := by simpa using (List.cons.inj hqa').1
        subst this
        rw [hst.run] at hk he ⊢
        exact b2 r k e hr hcr hcl hk he
    · rw [hst.other a e1] at hqa
      have hha := (hl.iff r a hr ha).2 ⟨y, l, hqa, k, e, hcl, hk, he⟩
      have := chosen_over hs hl hc ha e1 r hr hha
      omega

theorem lv_level {S : Sy} {W B : Nat → Int} {m m' : Mc} {i t : Nat} {s : Int} {ex N nb : Nat → Int} {bl : Int} {st : Nat → Bool} {j x : Jb} {dn : Bool} (hs : SyOk S) (ho : Ok S m) (hl : LkInv S m) (hq : QInv S m) (h : Lv S W B m i s ex N nb bl st) (hi : i < S.n) (ht : t < S.n) (hqt : m.q t = [j]) (hrel : j.rel ≤ m.now) (hst : Stp S m m' t j x dn) (hzt : S.Z i ≤ S.Z t) (hnd : t = i → dn = false) :
    ∃ ex' N' nb' st', Lv S (fun _ => m'.now - s + 1) B m' i s ex' N' nb' bl st' := by
  have hmem : j ∈ m.q t := by rw [hqt]; simp
  have hj := (ho.job t ht j hmem).1
  have hlp := left_pos hj
  have hle : j.left ≤ dmS S t := left_le (hs.prog t ht) hj (fun k hk h1 => (hl.num t ht j hmem k hk).2 h1)
  have harr := hq.arrl t ht j hmem
  obtain ⟨u1, u2, u3⟩ := h.used t ht hzt
  obtain ⟨c1, c2⟩ := h.many t ht hzt
  have hnow := hst.now
  have hx : ∃ N' nb' : Nat → Int, (∀ a, a ≠ t → N' a = N a ∧ nb' a = nb a) ∧ 0 ≤ N' t ∧ ex t + j.left ≤ dmS S t * N' t ∧ N' t * S.P t ≤ nb' t - s + S.J t ∧ (1 ≤ N' t → nb' t ≤ m.now + S.P t) ∧ (nb' t ≤ m.now ∨ nb' t ≤ m.last t + S.P t) ∧ (t = i → N' t = 0 ∨ N' t = 1) := by
    cases hb : st t with
    | true =>
      refine ⟨N, nb, fun a _ => ⟨rfl, rfl⟩, u1, u3 j [] hqt hb, c1, fun g => by have := c2 g; omega, ?_, fun e => ?_⟩
      · rcases h.next t ht hzt with g | g
        · exact .inl g
        · exact .inr g.2
      · subst e
        rcases h.own with g | g
        · exact .inl g
        · exact .inr g.1
    | false =>
      have hw := h.wait t ht hzt hb j hmem
      refine ⟨upd N t (N t + 1), upd nb t (j.arr + S.P t), fun a ha => ⟨upd_other _ _ ha, upd_other _ _ ha⟩, ?_, ?_, ?_, ?_, ?_, ?_⟩
      · rw [upd_same]; omega
      · rw [upd_same, Int.mul_add, Int.mul_one]; omega
      · rw [upd_same, upd_same, Int.add_mul, Int.one_mul]; omega
      · rw [upd_same, upd_same]; intro _; omega
      · rw [upd_same]; exact .inr (by omega)
      · rintro rfl
        rw [upd_same]
        rcases h.own with g | g
        · exact .inr (by omega)
        · rw [hb] at g; cases g.2
  obtain ⟨N', nb', n1, n2, n3, n4, n5, n6, n7⟩ := hx
  have h1 := h.before
  have h2 := h.sum
  refine ⟨upd ex t (ex t + 1), N', nb', upd st t (!dn), by omega, ?_, by show _ < m'.now - s + 1; omega, fun a ha hz => ?_, fun a ha hz => ?_, fun a ha hz => ?_, fun a ha hz => ?_, fun a ha hz => ?_, fun a ha hz => ?_, fun a ha hz => ?_, h.bl0, h.bl1, fun a y l r k e ha hza hr hcr hqa hcl hk he => ?_, ?_⟩
  · rw [sumTo_bump (f := ex) (t := t) S.n ht (fun a _ hne => upd_other _ _ hne) (upd_same _ _ _)]
    omega
  · rw [upd_other _ _ (fun e => by subst e; omega)]
    exact h.low a ha hz
  · by_cases e : a = t
    · subst e
      refine ⟨n2, by rw [upd_same]; omega, fun y l hy hb => ?_⟩
      rw [upd_same] at hb ⊢
      rw [hst.here] at hy
      split at hy
      · cases hy
      · have : x = y := by simpa using (List.cons.inj hy).1
        subst this
        rw [hst.left]
        omega
    · rw [upd_other _ _ e, upd_other _ _ e, hst.other a e, (n1 a e).1]
      exact h.used a ha hz
  · by_cases e : a = t
    · subst e
      rw [upd_same, hst.here]
      intro hb
      have : dn = false := by simpa using hb
      rw [this]
      simp
    · rw [upd_other _ _ e, hst.other a e]
      exact h.run a ha hz
  · by_cases e : a = t
    · subst e
      exact ⟨n4, fun g => by have := n5 g; omega⟩
    · rw [(n1 a e).1, (n1 a e).2]
      have := h.many a ha hz
      exact ⟨this.1, fun g => by have := this.2 g; omega⟩
  · by_cases e : a = t
    · subst e
      rw [upd_same, hst.here]
      intro hb y hy
      have : dn = true := by simpa using hb
      rw [this] at hy
      simp at hy
    · rw [upd_other _ _ e, hst.other a e, (n1 a e).2]
      exact h.wait a ha hz
  · rw [hst.last]
    by_cases e : a = t
    · subst e
      rcases n6 with g | g
      · exact .inl (by omega)
      · exact .inr ⟨hst.more, g⟩
    · rw [hst.other a e, hst.same a e, (n1 a e).2]
      rcases h.next a ha hz with g | g
      · exact .inl (by omega)
      · exact .inr g
  · by_cases e : a = t
    · subst e
      rw [hst.here]
      intro y hy
      split at hy
      · cases hy
      · have : y = x := by simpa using hy
        rw [this, hst.rel]
        exact h.young a ha hz j hmem
    · rw [hst.other a e]
      exact h.young a ha hz
  · have e1 : a ≠ t := fun e => by subst e; omega
    rw [hst.other a e1] at hqa
    exact h.sect a y l r k e ha hza hr hcr hqa hcl hk he
  · by_cases e : i = t
    · subst e
      rw [upd_same, hnd rfl]
      rcases n7 rfl with g | g
      · exact .inl g
      · exact .inr ⟨g, rfl⟩
    · rw [(n1 i e).1, upd_other _ _ e]
      exact h.own

/-- A level behind a tick in which task t runs. -/
theorem lv_tickAt {S : Sy} {W B : Nat → Int} {m : Mc} {i t : Nat} {s : Int} {ex N nb : Nat → Int} {bl : Int} {st : Nat → Bool} {j : Jb} (hs : SyOk S) (hb : Bd S W B) (ho : Ok S m) (hn : m.now < 1000000000000000000) (hl : LkInv S m) (hq : QInv S m) (h : Lv S W B m i s ex N nb bl st) (hi : i < S.n) (ht : t < S.n) (hqt : m.q t = [j]) (hrel : j.rel ≤ m.now) (hc : (chTo S m S.n).1 = (t : Int)) :
    QInv S (tickAt S m t j []).1 ∧ ∃ s' ex' N' nb' bl' st', Lv S W B (tickAt S m t j []).1 i s' ex' N' nb' bl' st' := by
  have hj := (ho.job t ht j (by rw [hqt]; simp)).1
  obtain ⟨x, dn, hst, _⟩ := stp_of (m := m) hj
  have ho' := ok_tickAt ho hn ht hqt
  have hl' := lk_tickAt hs ho hl ht hqt hrel hc
  have hq' := q_stp hq hqt hst
  refine ⟨hq', ?_⟩
  by_cases hqu : Quiet S (tickAt S m t j []).1 i
  · exact ⟨_, _, _, _, _, _, lv_quiet hs hb hl' hq' hi hqu⟩
  · have hex : ∃ a y, a < S.n ∧ S.Z i ≤ S.Z a ∧ y ∈ (tickAt S m t j []).1.q a ∧ y.rel < (tickAt S m t j []).1.now := Classical.byContradiction fun hno => hqu (fun a ha hz y hy => by
      rcases Int.lt_or_le y.rel (tickAt S m t j []).1.now with g | g
      · exact absurd ⟨a, y, ha, hz, hy, g⟩ hno
      · exact g)
    obtain ⟨a, y, ha, hza, hy, hyr⟩ := hex
    rw [hst.now] at hyr
    have hlen := h.len
    have hnow := hst.now
    have hready : a ≠ t → readyB m a = true := fun e => by
      rw [hst.other a e] at hy
      exact ready_of hq ha hy (by omega)
    have hwhose : S.Z i ≤ S.Z t ∨ ∃ r, r < 8 ∧ m.hold r = (t : Int) ∧ S.Z i ≤ S.C r := by
      by_cases e : a = t
      · subst e; exact .inl hza
      · exact tick_whose hc ha hza (hready e)
    by_cases hzt : S.Z i ≤ S.Z t
    · have hnd : t = i → dn = false := fun e => by
        cases hdn : dn with
        | false => rfl
        | true =>
          exfalso
          subst e
          have hne : a ≠ t := fun e => by
            subst e
            rw [hst.here, hdn] at hy
            simp at hy
          have hfin := hst.fin hdn
          rw [hst.run] at hfin
          have := done_top hs hl hj hqt hfin hc ha (hready hne)
          exact hne (hs.inj a t ha ht (by omega))
      obtain ⟨ex', N', nb', st', hv⟩ := lv_level hs ho hl hq h hi ht hqt hrel hst hzt hnd
      exact ⟨s, ex', N', nb', bl, st', hv.tight hs hb ho' hi (by omega)⟩
    · rcases hwhose with g | ⟨r0, hr0, hh, hc0⟩
      · exact absurd g hzt
      · have hv := lv_low hs ho hl h ht hqt hc hst (by omega) hr0 hh hc0
        exact ⟨s, ex, N, nb, bl + 1, st, hv.tight hs hb ho' hi (by omega)⟩

end Go.Proofs.Ytdabcflpcklfiaa.Cad
