import Derived.Test.YtdabcflpcklfiaaTg
/- Plain mathematics: with bounds for all tasks no job is ever older than its bound (P11), whatever comes. -/
namespace Go.Proofs.Ytdabcflpcklfiaa.Cad

structure TInv (S : Sy) (W B : Nat → Int) (m : Mc) : Prop where
  lk : LkInv S m
  q : QInv S m
  lv : ∀ i, i < S.n → ∃ s ex N nb bl st, Lv S W B m i s ex N nb bl st

/-- A job that is not done is younger than its bound. -/
theorem TInv.young {S : Sy} {W B : Nat → Int} {m : Mc} (h : TInv S W B m) {i : Nat} (hi : i < S.n) {x : Jb} (hx : x ∈ m.q i) : m.now < x.arr + S.J i + W i := by
  obtain ⟨s, ex, N, nb, bl, st, hv⟩ := h.lv i hi
  exact hv.young_of h.q hi hx

theorem t_start {S : Sy} {W B : Nat → Int} (hs : SyOk S) (hb : Bd S W B) : TInv S W B start := by
  have hq : QInv S start := ⟨fun t _ => by simp [start], fun t _ x hx => by simp [start] at hx⟩
  exact ⟨lk_start S, hq, fun i hi => ⟨_, _, _, _, _, _, lv_quiet hs hb (lk_start S) hq hi (fun j _ _ x hx => by simp [start] at hx)⟩⟩

theorem t_tick {S : Sy} {W B : Nat → Int} {m : Mc} (hs : SyOk S) (hb : Bd S W B) (ho : Ok S m) (hn : m.now < 1000000000000000000) (h : TInv S W B m) : TInv S W B (tick S m).1 := by
  have hl' := lk_tick hs ho h.lk
  rcases tick_cases S m with ⟨hc, e⟩ | ⟨t, j, l, ht, hqt, hrel, hc, e⟩
  · have hq' : QInv S (tick S m).1 := by
      rw [e]; exact ⟨h.q.one, h.q.arrl⟩
    refine ⟨hl', hq', fun i hi => ⟨_, _, _, _, _, _, lv_quiet hs hb hl' hq' hi ?_⟩⟩
    intro a ha hz x hx
    rw [e] at hx ⊢
    have hx' : x ∈ m.q a := hx
    show m.now + 1 ≤ x.rel
    rcases Int.lt_or_le m.now x.rel with g | g
    · omega
    · exfalso
      have hr := ready_of h.q ha hx' g
      have h1 := chTo_max S m S.n a ha hr
      have h2 := rank_range ho ha m.hold
      rcases chTo_range S m S.n with ⟨_, h3⟩ | ⟨t, _, h3, _⟩
      · omega
      · omega
  · have hl0 : l = [] := by
      have := h.q.one t ht
      rw [hqt] at this
      simp only [List.length_cons] at this
      exact List.eq_nil_of_length_eq_zero (by omega)
    subst hl0
    have hk : ∀ i, i < S.n → QInv S (tickAt S m t j []).1 ∧ ∃ s' ex' N' nb' bl' st', Lv S W B (tickAt S m t j []).1 i s' ex' N' nb' bl' st' := fun i hi => by
      obtain ⟨s, ex, N, nb, bl, st, hv⟩ := h.lv i hi
      exact lv_tickAt hs hb ho hn h.lk h.q hv hi ht hqt hrel hc
    rw [e] at hl' ⊢
    exact ⟨hl', (hk t ht).1, fun i hi => (hk i hi).2⟩

theorem refuse_no {S : Sy} {m : Mc} {t : Nat} {jit : Int} {D : Nat → Int} {d : Nat} (h : refuse S m t jit D d = 0) : ¬ (0 < m.done t + (m.q t).length ∧ m.now - m.last t < S.P t) ∧ 0 ≤ jit ∧ jit ≤ S.J t ∧ Fits (S.K t) (S.N t) (S.L t) D d := by
  unfold refuse at h
  split at h
  · cases h
  · split at h
    · cases h
    · split at h
      · cases h
      · rename_i h1 h2 h3
        exact ⟨h1, by omega, by omega, Classical.byContradiction h3⟩

/-- When a job may come, the one before is done. -/
theorem TInv.empty {S : Sy} {W B : Nat → Int} {m : Mc} (hb : Bd S W B) (h : TInv S W B m) {t : Nat} (ht : t < S.n) (hn : ¬ (0 < m.done t + (m.q t).length ∧ m.now - m.last t < S.P t)) : m.q t = [] := by
  cases hq : m.q t with
  | nil => rfl
  | cons x l =>
    exfalso
    have hx : x ∈ m.q t := by rw [hq]; simp
    have h1 := h.young ht hx
    have h2 := (h.q.arrl t ht x hx).1
    have h3 := hb.fits t ht
    refine hn ⟨?_, by omega⟩
    rw [hq]
    simp only [List.length_cons]
    omega

theorem lv_added {S : Sy} {W B : Nat → Int} {m : Mc} {i t : Nat} {s : Int} {ex N nb : Nat → Int} {bl : Int} {st : Nat → Bool} {jit : Int} {D : Nat → Int} (h : Lv S W B m i s ex N nb bl st) (hqt : m.q t = []) (h0 : 0 ≤ jit) (hn : ¬ (0 < m.done t + (m.q t).length ∧ m.now - m.last t < S.P t)) : Lv S W B (added S m t jit D) i s ex N nb bl st := by
  have hqs : (added S m t jit D).q t = [jobOf S m t jit D] := by
    show upd m.q t (m.q t ++ [jobOf S m t jit D]) t = _
    rw [upd_same, hqt]; rfl
  have hqo : ∀ a, a ≠ t → (added S m t jit D).q a = m.q a := fun a ha => upd_other _ _ ha
  have hnb : t < S.n → S.Z i ≤ S.Z t → nb t ≤ m.now := fun ht hz => by
    rcases h.next t ht hz with g | ⟨g1, g2⟩
    · exact g
    · rcases Int.lt_or_le (m.now - m.last t) (S.P t) with g3 | g3
      · exact absurd ⟨g1, g3⟩ hn
      · omega
  have hns : t < S.n → S.Z i ≤ S.Z t → st t = true → False := fun ht hz hb => h.run t ht hz hb hqt
  refine ⟨h.before, h.sum, h.len, h.low, fun a ha hz => ?_, fun a ha hz => ?_, h.many, fun a ha hz => ?_, fun a ha hz => ?_, fun a ha hz => ?_, h.bl0, h.bl1, fun a y l r k e ha hza hr hcr hqa hcl hk he => ?_, h.own⟩
  · by_cases e : a = t
    · subst e
      exact ⟨(h.used a ha hz).1, (h.used a ha hz).2.1, fun _ _ _ hb => (hns ha hz hb).elim⟩
    · rw [hqo a e]; exact h.used a ha hz
  · by_cases e : a = t
    · subst e
      exact fun hb => (hns ha hz hb).elim
    · rw [hqo a e]; exact h.run a ha hz
  · by_cases e : a = t
    · subst e
      rw [hqs]
      intro _ x hx
      have : x = jobOf S m a jit D := by simpa using hx
      rw [this]
      exact hnb ha hz
    · rw [hqo a e]; exact h.wait a ha hz
  · by_cases e : a = t
    · subst e
      exact .inl (hnb ha hz)
    · rw [hqo a e]
      show nb a ≤ m.now ∨ (0 < m.done a + (m.q a).length ∧ nb a ≤ upd m.last t m.now a + S.P a)
      rw [upd_other _ _ e]
      exact h.next a ha hz
  · by_cases e : a = t
    · subst e
      rw [hqs]
      intro x hx
      have : x = jobOf S m a jit D := by simpa using hx
      rw [this]
      have := h.before
      show s ≤ m.now + jit
      omega
    · rw [hqo a e]; exact h.young a ha hz
  · by_cases e1 : a = t
    · subst e1
      rw [hqs] at hqa
      have : jobOf S m a jit D = y := by simpa using (List.cons.inj hqa).1
      rw [← this] at hk
      have hk' : k < 0 := hk
      omega
    · rw [hqo a e1] at hqa
      exact h.sect a y l r k e ha hza hr hcr hqa hcl hk he

theorem t_added {S : Sy} {W B : Nat → Int} {m : Mc} (hb : Bd S W B) (h : TInv S W B m) {t : Nat} (ht : t < S.n) {jit : Int} {D : Nat → Int} {d : Nat} (hr : refuse S m t jit D d = 0) : TInv S W B (added S m t jit D) := by
  obtain ⟨h1, h2, h3, h4⟩ := refuse_no hr
  have hqt := h.empty hb ht h1
  refine ⟨lk_added h.lk ht h4, ⟨fun a ha => ?_, fun a ha x hx => ?_⟩, fun i hi => ?_⟩
  · show (upd m.q t (m.q t ++ [jobOf S m t jit D]) a).length ≤ 1
    by_cases e : a = t
    · subst e; rw [upd_same, hqt]; simp
    · rw [upd_other _ _ e]; exact h.q.one a ha
  · have hx' : x ∈ upd m.q t (m.q t ++ [jobOf S m t jit D]) a := hx
    show x.arr ≤ upd m.last t m.now a ∧ _
    by_cases e : a = t
    · subst e
      rw [upd_same, hqt] at hx'
      have : x = jobOf S m a jit D := by simpa using hx'
      rw [this, upd_same]
      refine ⟨Int.le_refl _, ?_, ?_⟩
      · show m.now + jit ≤ m.now + S.J a; omega
      · show m.now ≤ m.now + jit; omega
    · rw [upd_other _ _ e] at hx' ⊢
      exact h.q.arrl a ha x hx'
  · obtain ⟨s, ex, N, nb, bl, st, hv⟩ := h.lv i hi
    exact ⟨s, ex, N, nb, bl, st, lv_added hv hqt h2 h1⟩

theorem t_arrive {S : Sy} {W B : Nat → Int} {m : Mc} (hb : Bd S W B) (h : TInv S W B m) (x jit : Int) (D : Nat → Int) (d : Nat) : TInv S W B (arrive S m x jit D d).1 := by
  unfold arrive
  split
  · exact h
  · rename_i hx
    split
    · exact h
    · rename_i hr
      exact t_added hb h (by omega) (Classical.byContradiction hr)

/-- Nothing is ever full. -/
theorem TInv.not_full {S : Sy} {W B : Nat → Int} {m : Mc} (h : TInv S W B m) {t : Nat} (ht : t < S.n) (jit : Int) (D : Nat → Int) (d : Nat) : refuse S m t jit D d ≠ 9 := by
  have := h.q.one t ht
  unfold refuse
  split
  · decide
  · split
    · decide
    · split
      · decide
      · split
        · omega
        · decide

end Go.Proofs.Ytdabcflpcklfiaa.Cad
