import Derived.Test.YtdabcflpcklfiaaTi
/- Plain mathematics: the run with the jobs that the document names, tick by tick. -/
namespace Go.Proofs.Ytdabcflpcklfiaa.Cad

theorem dem_same {K N N' : Nat → Int} : ∀ L, (∀ k, k < L → K k = 1 → N' k = N k) → demTo K N' L = demTo K N L
  | 0, _ => rfl
  | L + 1, h => by
    unfold demTo
    rw [dem_same L (fun k hk => h k (by omega))]
    by_cases e : K L = 1
    · rw [if_pos e, if_pos e, h L (by omega) e]
    · rw [if_neg e, if_neg e]

/-- Demands as great as they may be. -/
def Full (K N : Nat → Int) (L : Nat) (D : Nat → Int) (d : Nat) : Prop := Fits K N L D d ∧ ∀ k, k < L → K k = 1 → D (cmpTo K k) = N k

theorem rn_added {S : Sy} {W B : Nat → Int} {z : Int} {m : Mc} {A : Nat → Int} (hb : Bd S W B) (h : Rn S W B z m A) {t : Nat} (ht : t < S.n) {jit : Int} {D : Nat → Int} {d : Nat} (hf : Full (S.K t) (S.N t) (S.L t) D d)
    (hc : (A t = 0 ∧ m.now = z - S.J t ∧ jit = S.J t) ∨ (1 ≤ A t ∧ m.now = z - S.J t + A t * S.P t ∧ jit = 0)) :
    refuse S m t jit D d = 0 ∧ (Ok S (added S m t jit D) → Rn S W B z (added S m t jit D) (upd A t (A t + 1))) := by
  have hp := hb.per t ht
  have hall := h.all t ht
  have hr1 : ¬ (0 < m.done t + (m.q t).length ∧ m.now - m.last t < S.P t) := by
    rintro ⟨g1, g2⟩
    rcases hc with ⟨c1, c2, c3⟩ | ⟨c1, c2, c3⟩
    · omega
    · have := h.lastA t ht c1
      rw [Int.sub_mul, Int.one_mul] at this
      omega
  have hqt := h.t.empty hb ht hr1
  have hjit : 0 ≤ jit ∧ jit ≤ S.J t := by
    rcases hc with ⟨c1, c2, c3⟩ | ⟨c1, c2, c3⟩ <;> omega
  have href : refuse S m t jit D d = 0 := by
    unfold refuse
    rw [if_neg hr1, if_neg (by omega), if_neg (fun g => g hf.1), if_neg (by rw [hqt]; simp)]
  refine ⟨href, fun ho => ?_⟩
  have hA0 : 0 ≤ A t := by omega
  have hqs : (added S m t jit D).q t = [jobOf S m t jit D] := by
    show upd m.q t (m.q t ++ [jobOf S m t jit D]) t = _
    rw [upd_same, hqt]; rfl
  have hqo : ∀ a, a ≠ t → (added S m t jit D).q a = m.q a := fun a ha => upd_other _ _ ha
  have hleft : (jobOf S m t jit D).left = dmS S t := by
    show demTo (S.K t) (numOf (S.K t) (S.N t) D) (S.L t) = demTo (S.K t) (S.N t) (S.L t)
    refine dem_same _ (fun k hk h1 => ?_)
    unfold numOf
    rw [if_pos h1]
    exact hf.2 k hk h1
  have hnow : m.now = z - S.J t + A t * S.P t := by
    rcases hc with ⟨c1, c2, c3⟩ | ⟨c1, c2, c3⟩
    · rw [c1, Int.zero_mul]; omega
    · exact c2
  refine ⟨t_added hb h.t ht href, ho, fun a ha => ?_, fun a ha x hx => ?_, fun a ha g => ?_, ?_, h.idl⟩
  · by_cases e : a = t
    · subst e
      rw [hqs, upd_same]
      show (m.done a : Int) + _ = _
      rw [hqt] at hall
      simp at hall ⊢
      omega
    · rw [hqo a e, upd_other _ _ e]; exact h.all a ha
  · by_cases e : a = t
    · subst e
      rw [hqs] at hx
      have : x = jobOf S m a jit D := by simpa using hx
      rw [this, upd_same, hleft]
      refine ⟨?_, ?_, Int.le_refl _⟩
      · show m.now = _
        rw [hnow, Int.add_sub_cancel]
      · show m.now + jit = if A a + 1 = 1 then z else m.now
        rcases hc with ⟨c1, c2, c3⟩ | ⟨c1, c2, c3⟩
        · rw [if_pos (by omega)]; omega
        · rw [if_neg (by omega)]; omega
    · rw [hqo a e] at hx
      rw [upd_other _ _ e]; exact h.job a ha x hx
  · show upd m.last t m.now a = _
    by_cases e : a = t
    · subst e
      rw [upd_same, upd_same, Int.add_sub_cancel]
      exact hnow
    · rw [upd_other _ _ e] at g ⊢
      rw [upd_other _ _ e]
      exact h.lastA a ha g
  · show sumTo (usedOf S (added S m t jit D)) S.n + m.idle = m.now
    rw [sumTo_same (f := usedOf S m) S.n (fun a ha => ?_)]
    · exact h.work
    · unfold usedOf
      by_cases e : a = t
      · subst e
        rw [hqs, hqt]
        show dmS S a * (m.done a : Int) + (dmS S a - (jobOf S m a jit D).left) = dmS S a * (m.done a : Int) + 0
        rw [hleft]
        omega
      · rw [hqo a e]; rfl

theorem tickAt_done {S : Sy} {m : Mc} {t : Nat} {j : Jb} : ((tickAt S m t j []).2 = true ∧ (tickAt S m t j []).1.done t = m.done t + 1 ∨ (tickAt S m t j []).2 = false ∧ (tickAt S m t j []).1.done t = m.done t) ∧ (tickAt S m t j []).1.idle = m.idle := by
  unfold tickAt
  simp only []
  split
  · exact ⟨.inr ⟨rfl, rfl⟩, rfl⟩
  · exact ⟨.inl ⟨rfl, upd_same _ _ _⟩, rfl⟩

theorem used_nonneg {S : Sy} {W B : Nat → Int} {z : Int} {m : Mc} {A : Nat → Int} (hs : SyOk S) (h : Rn S W B z m A) {j : Nat} (hj : j < S.n) : 0 ≤ usedOf S m j := by
  have h1 := dm_pos hs hj
  have h2 := Int.mul_nonneg (show 0 ≤ dmS S j by omega) (show (0 : Int) ≤ (m.done j : Int) by omega)
  unfold usedOf
  cases hq : m.q j with
  | nil => show 0 ≤ dmS S j * (m.done j : Int) + 0; omega
  | cons x l =>
    have := (h.job j hj x (by rw [hq]; simp)).2.2
    show 0 ≤ dmS S j * (m.done j : Int) + (dmS S j - x.left)
    omega

theorem rn_tick {S : Sy} {W B : Nat → Int} {z : Int} {m : Mc} {A : Nat → Int} (hs : SyOk S) (hb : Bd S W B) (hn : m.now < 1000000000000000000) (h : Rn S W B z m A) : Rn S W B z (tick S m).1 A ∧ (∀ a : Nat, a < S.n → (tick S m).2.1 ≠ (a : Int) ∨ (tick S m).2.2 = false → (tick S m).1.done a = m.done a) ∧ (tick S m).1.now = m.now + 1 ∧
    ((tick S m).2.2 = true → ∃ t, t < S.n ∧ (tick S m).2.1 = (t : Int) ∧ (tick S m).1.done t = m.done t + 1) := by
  have ht' := t_tick hs hb h.ok hn h.t
  have ho' := ok_tick h.ok hn
  rcases tick_cases S m with ⟨hc, e⟩ | ⟨t, j, l, ht, hqt, hrel, hc, e⟩
  · rw [e] at ht' ho' ⊢
    refine ⟨⟨ht', ho', h.all, h.job, h.lastA, ?_, ?_⟩, fun _ _ _ => rfl, rfl, fun g => by cases g⟩
    · have := h.work
      show sumTo (usedOf S m) S.n + (m.idle + 1) = m.now + 1
      omega
    · show z ≤ m.idle + 1 ∨ m.idle + 1 = m.now + 1
      rcases h.idl with g | g <;> omega
  · have hl0 : l = [] := by
      have := h.t.q.one t ht
      rw [hqt] at this
      simp only [List.length_cons] at this
      exact List.eq_nil_of_length_eq_zero (by omega)
    subst hl0
    have hmem : j ∈ m.q t := by rw [hqt]; simp
    have hj := (h.ok.job t ht j hmem).1
    obtain ⟨x, dn, hst, hdn⟩ := stp_of (m := m) hj
    obtain ⟨hd, hid⟩ := tickAt_done (S := S) (m := m) (t := t) (j := j)
    rw [e] at ht' ho' ⊢
    rw [← hdn] at hd
    have hlp := left_pos hj
    have hx0 : dn = true → x.left = 0 := fun g => by
      have := (runK_ok (t := t) (h := m.hold) hj).2.2.1
      rw [← hst.run] at this
      exact this (hst.fin g)
    have hall := h.all t ht
    rw [hqt] at hall
    have hall' : (m.done t : Int) + 1 = A t := by simpa using hall
    have hqi := h.rel_ge hb ht hmem
    refine ⟨⟨ht', ho', fun a ha => ?_, fun a ha y hy => ?_, fun a ha g => ?_, ?_, ?_⟩, fun a ha hor => ?_, hst.now, fun g => ⟨t, ht, rfl, ?_⟩⟩
    · show ((tickAt S m t j []).1.done a : Int) + _ = _
      by_cases ea : a = t
      · subst ea
        rw [hst.here]
        rcases hd with ⟨d1, d2⟩ | ⟨d1, d2⟩
        · rw [d2, d1]; simp; omega
        · rw [d2, d1]; simp; omega
      · rw [hst.other a ea, hst.same a ea]; exact h.all a ha
    · by_cases ea : a = t
      · subst ea
        rw [hst.here] at hy
        split at hy
        · cases hy
        · have : y = x := by simpa using hy
          rw [this, hst.arr, hst.rel, hst.left]
          have := h.job a ha j hmem
          exact ⟨this.1, this.2.1, by omega⟩
      · rw [hst.other a ea] at hy
        exact h.job a ha y hy
    · rw [hst.last]; exact h.lastA a ha g
    · have u1 : ∀ a, a < S.n → a ≠ t → usedOf S (tickAt S m t j []).1 a = usedOf S m a := fun a _ hne => by
        unfold usedOf
        rw [hst.other a hne, hst.same a hne]
      have u2 : usedOf S (tickAt S m t j []).1 t = usedOf S m t + 1 := by
        unfold usedOf
        rw [hst.here, hqt]
        have hxl := hst.left
        rcases hd with ⟨d1, d2⟩ | ⟨d1, d2⟩
        · have := hx0 d1
          rw [d2, d1]
          show dmS S t * ((m.done t + 1 : Nat) : Int) + 0 = dmS S t * (m.done t : Int) + (dmS S t - j.left) + 1
          rw [Int.natCast_add, Int.mul_add]
          simp
          omega
        · rw [d2, d1]
          show dmS S t * (m.done t : Int) + (dmS S t - x.left) = dmS S t * (m.done t : Int) + (dmS S t - j.left) + 1
          omega
      have u3 := sumTo_bump (f := usedOf S m) (t := t) S.n ht u1 u2
      have := h.work
      show sumTo (usedOf S (tickAt S m t j []).1) S.n + (tickAt S m t j []).1.idle = (tickAt S m t j []).1.now
      rw [u3, hid, hst.now]
      omega
    · rw [hid]
      rcases h.idl with g | g
      · exact .inl g
      · exact .inl (by omega)
    · by_cases ea : a = t
      · subst ea
        rcases hor with g | g
        · exact absurd rfl g
        · rcases hd with ⟨d1, d2⟩ | ⟨d1, d2⟩
          · have g' : (tickAt S m a j []).2 = false := g
            rw [← hdn, d1] at g'; cases g'
          · exact d2
      · exact hst.same a ea
    · rcases hd with ⟨d1, d2⟩ | ⟨d1, d2⟩
      · exact d2
      · have g' : (tickAt S m t j []).2 = true := g
        rw [← hdn, d1] at g'; cases g'

/-- The first job of a task is done just at its bound. -/
theorem first_done {S : Sy} {W B : Nat → Int} {z : Int} {m : Mc} {A : Nat → Int} (hs : SyOk S) (hb : Bd S W B) (hn : m.now < 1000000000000000000) (h : Rn S W B z m A) (hA : ∀ j, j < S.n → A j = cnt (z - S.J j) (S.P j) (m.now + 1)) {t : Nat} (ht : t < S.n) (hy : (tick S m).2.1 = (t : Int)) (hd : (tick S m).2.2 = true) (h0 : m.done t = 0)
    (hB : B t = 0) (hleast : ∀ u, 1 ≤ u → u < W t → dmS S t + B t + inter S.P S.J (dmS S) (fun j => decide (S.Z t < S.Z j)) u S.n ≠ u) : m.now + 1 = z + W t := by
  obtain ⟨hr', hsame, hnow', hmore⟩ := rn_tick hs hb hn h
  obtain ⟨t2, ht2, e2, hdn⟩ := hmore hd
  have : t2 = t := by rw [hy] at e2; omega
  subst this
  rcases tick_cases S m with ⟨hc, e⟩ | ⟨t3, j, l, ht3, hqt, hrel, hc, e⟩
  · rw [e] at hd; cases hd
  · have : t3 = t2 := by rw [e] at hy; have : (t3 : Int) = (t2 : Int) := hy; omega
    subst this
    have hl0 : l = [] := by
      have := h.t.q.one t3 ht
      rw [hqt] at this
      simp only [List.length_cons] at this
      exact List.eq_nil_of_length_eq_zero (by omega)
    subst hl0
    have hmem : j ∈ m.q t3 := by rw [hqt]; simp
    have hj := (h.ok.job t3 ht j hmem).1
    obtain ⟨x, dn, hst, hdn'⟩ := stp_of (m := m) hj
    have hdt : dn = true := by rw [hdn']; rw [e] at hd; exact hd
    have hfin := hst.fin hdt
    rw [hst.run] at hfin
    have hA1 : A t3 = 1 := by
      have := h.all t3 ht
      rw [hqt, h0] at this
      simpa using this.symm
    -- not later
    have hup : m.now + 1 ≤ z + W t3 := by
      have h1 := h.t.young ht hmem
      have h2 := (h.job t3 ht j hmem).1
      rw [hA1] at h2
      simp at h2
      omega
    -- not earlier
    have hq3 : (tick S m).1.q t3 = [] := by rw [e]; show (tickAt S m t3 j []).1.q t3 = []; rw [hst.here, hdt]; rfl
    have hzi : z ≤ (tick S m).1.idle := by
      rw [e]
      show z ≤ (tickAt S m t3 j []).1.idle
      rw [(tickAt_done (S := S) (m := m) (t := t3) (j := j)).2]
      rcases h.idl with g | g
      · exact g
      · have := (h.rel_ge hb ht hmem).2; omega
    have hzn : z ≤ m.now := by have := (h.rel_ge hb ht hmem).2; omega
    have hge := level_ge (P := S.P) (J := S.J) (dm := dmS S) (Z := S.Z) (i := t3) (w := m.now + 1 - z) (f := usedOf S (tick S m).1) (own := dmS S t3) S.n
      (fun a ha hz => by
        have hne : a ≠ t3 := fun g => by subst g; omega
        have hqa : m.q a = [] := by
          cases hq : m.q a with
          | nil => rfl
          | cons y l =>
            exfalso
            have hym : y ∈ m.q a := by rw [hq]; simp
            have hyr : y.rel ≤ m.now := by
              have h1 := (h.job a ha y hym).2.1
              rw [h1]
              split
              · exact hzn
              · exact (h.ok.job a ha y hym).2.2.1
            have := done_top hs h.t.lk hj hqt hfin hc ha (ready_of h.t.q ha hym hyr)
            omega
        have hqa' : (tick S m).1.q a = [] := by rw [e]; show (tickAt S m t3 j []).1.q a = []; rw [hst.other a hne, hqa]
        have hda := hsame a ha (.inl (by rw [hy]; omega))
        have h1 := h.all a ha
        rw [hqa, hA a ha] at h1
        have hp := hb.per a ha
        have h2 := cnt_ceil (z := z) (J := S.J a) (P := S.P a) (x := m.now + 1 - z) hp.1 hp.2 (by omega)
        rw [show z + (m.now + 1 - z) = m.now + 1 by omega] at h2
        rw [h2] at h1
        unfold usedOf
        rw [hqa', hda]
        show ceilD (m.now + 1 - z + S.J a) (S.P a) * dmS S a ≤ dmS S a * (m.done a : Int) + 0
        have h3 : (m.done a : Int) = ceilD (m.now + 1 - z + S.J a) (S.P a) := by simpa using h1
        rw [h3, Int.mul_comm]
        omega)
      (fun a ha => used_nonneg hs hr' ha)
      (fun _ => by
        unfold usedOf
        rw [hq3, hdn, h0]
        show dmS S t3 ≤ dmS S t3 * ((0 + 1 : Nat) : Int) + 0
        simp)
    rw [if_pos ht] at hge
    have hw := hr'.work
    rw [hnow'] at hw
    have hdm := dm_pos hs ht
    have htimes : TimesOk S.P S.J (dmS S) S.n := fun a ha => by
      have h1 := hb.per a ha
      have h2 := h.ok.per a ha
      have h3 := dem_pos (hs.prog a ha)
      exact ⟨h1.1, h1.2, h2.2.2.2, by show 0 ≤ demTo _ _ _; omega, by show demTo _ _ _ ≤ _; omega⟩
    have hnn : ∀ u, 1 ≤ u → 0 ≤ inter S.P S.J (dmS S) (fun j => decide (S.Z t3 < S.Z j)) u S.n := fun u hu => by
      have h1 := (inter_bound (hi := fun j => decide (S.Z t3 < S.Z j)) htimes (w := 1) (by omega) (by omega) S.n (Nat.le_refl _)).1
      have h2 := inter_mono (hi := fun j => decide (S.Z t3 < S.Z j)) htimes hu S.n (Nat.le_refl _)
      omega
    have := least_le (f := fun u => dmS S t3 + B t3 + inter S.P S.J (dmS S) (fun j => decide (S.Z t3 < S.Z j)) u S.n) (w := W t3)
      (fun a b hab => by have := inter_mono (hi := fun j => decide (S.Z t3 < S.Z j)) htimes hab S.n (Nat.le_refl _); show dmS S t3 + B t3 + _ ≤ dmS S t3 + B t3 + _; omega)
      (fun u hu => by have := hnn u hu; show 1 ≤ dmS S t3 + B t3 + _; omega) hleast _ (m.now + 1 - z) (Nat.le_refl _) (by omega) (by show dmS S t3 + B t3 + _ ≤ _; omega)
    omega

end Go.Proofs.Ytdabcflpcklfiaa.Cad
