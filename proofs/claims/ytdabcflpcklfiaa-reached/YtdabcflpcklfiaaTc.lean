import Derived.Test.YtdabcflpcklfiaaTb
/- Plain mathematics: the invariant of the locks is kept. -/
namespace Go.Proofs.Ytdabcflpcklfiaa.Cad

theorem inside_zero {S : Sy} {t r : Nat} : ¬ Inside S t 0 r := fun ⟨k, e, _, hk, _⟩ => by omega
theorem inside_end {S : Sy} {t r : Nat} : ¬ Inside S t (S.L t) r := fun ⟨k, e, hc, _, he⟩ => by have := hc.2.1; omega

theorem lk_start (S : Sy) : LkInv S start := by
  refine ⟨fun r _ => .inl rfl, fun r t _ _ => ⟨fun h => by have : (-1 : Int) = (t : Int) := h; omega, fun ⟨j, l, h, _⟩ => by simp [start] at h⟩, fun t _ j hj => by simp [start] at hj, fun t j l _ h => by simp [start] at h, fun t j l _ h => by simp [start] at h, fun a b _ _ _ ⟨r, _, h⟩ => by have : (-1 : Int) = (a : Int) := h; omega⟩

theorem lk_later {S : Sy} {m : Mc} (h : LkInv S m) (x y : Int) (hx : m.now ≤ x) : LkInv S { m with now := x, idle := y } :=
  ⟨h.own, h.iff, h.num, fun t j l ht hq hp => by have := h.rel t j l ht hq hp; show j.rel ≤ x; omega, h.rest, h.pair⟩

theorem lk_tickAt {S : Sy} {m : Mc} (hs : SyOk S) (ho : Ok S m) (h : LkInv S m) {t : Nat} {j : Jb} {l : List Jb} (ht : t < S.n) (hq : m.q t = j :: l) (hrel : j.rel ≤ m.now) (hc : (chTo S m S.n).1 = (t : Int)) : LkInv S (tickAt S m t j l).1 := by
  have hj := (ho.job t ht j (by rw [hq]; simp)).1
  have hp := hs.prog t ht
  have hnumj := h.num t ht j (by rw [hq]; simp)
  have hrun : ∀ r, r < 8 → _ := fun r hr => run_hold (h := m.hold) (r := r) hp hj (fun k hk h1 => (hnumj k hk).1 h1)
    ⟨fun e => by
      obtain ⟨j', l', hq', hi⟩ := (h.iff r t hr ht).1 e
      rw [hq] at hq'
      cases hq'
      exact hi, fun hi => (h.iff r t hr ht).2 ⟨j, l, hq, hi⟩⟩
    (fun k hk h2 hn => lock_free_of hs h hc ht hk h2 hr hn)
  obtain ⟨k1, k2, k3, k4, k5, k6, k7⟩ := runK_ok (t := t) (h := m.hold) hj
  -- the job's numbers behind the tick
  have hnum' : ∀ k, k < S.L t → (S.K t k ≠ 1 → (runK (S.K t) (S.L t) t m.hold j).2.N k = S.N t k) ∧ (S.K t k = 1 → (runK (S.K t) (S.L t) t m.hold j).2.N k ≤ S.N t k) := fun k hk => by
    have hsl := skipLt hj
    have hN : (runK (S.K t) (S.L t) t m.hold j).2.N = upd j.N (skip (S.K t) 2 (S.L t) j.p) (j.N (skip (S.K t) 2 (S.L t) j.p) - 1) := by
      unfold runK
      simp only []
      split <;> rfl
    rw [hN]
    by_cases e : k = skip (S.K t) 2 (S.L t) j.p
    · rw [e, upd_same]
      exact ⟨fun h1 => absurd hsl.2 h1, fun h1 => by have := (hnumj _ hsl.1).2 hsl.2; omega⟩
    · rw [upd_other _ _ e]
      exact hnumj k hk
  have hover : ∀ a, a < S.n → a ≠ t → ∀ r, r < 8 → m.hold r = (a : Int) → S.C r < S.Z t := fun a ha hne => chosen_over hs h hc ha hne
  have hpair : ∀ a b, a < S.n → b < S.n → a ≠ b → (∃ r, r < 8 ∧ (runK (S.K t) (S.L t) t m.hold j).1 r = (a : Int)) → (∃ r, r < 8 ∧ (runK (S.K t) (S.L t) t m.hold j).1 r = (b : Int)) →
      (∀ r, r < 8 → (runK (S.K t) (S.L t) t m.hold j).1 r = (a : Int) → S.C r < S.Z b) ∨ (∀ r, r < 8 → (runK (S.K t) (S.L t) t m.hold j).1 r = (b : Int) → S.C r < S.Z a) := fun a b ha hb hab hxa hxb => by
    by_cases ea : a = t
    · subst ea
      exact .inr (fun r hr e => hover b hb (fun e => hab e.symm) r hr (((hrun r hr).2.1 b (fun e => hab e.symm)).1 e))
    · by_cases eb : b = t
      · subst eb
        exact .inl (fun r hr e => hover a ha ea r hr (((hrun r hr).2.1 a ea).1 e))
      · obtain ⟨ra, hra, eea⟩ := hxa
        obtain ⟨rb, hrb, eeb⟩ := hxb
        rcases h.pair a b ha hb hab ⟨ra, hra, ((hrun ra hra).2.1 a ea).1 eea⟩ ⟨rb, hrb, ((hrun rb hrb).2.1 b eb).1 eeb⟩ with g | g
        · exact .inl (fun r hr e => g r hr (((hrun r hr).2.1 a ea).1 e))
        · exact .inr (fun r hr e => g r hr (((hrun r hr).2.1 b eb).1 e))
  have hown : ∀ r, r < 8 → (runK (S.K t) (S.L t) t m.hold j).1 r = -1 ∨ ∃ a, a < S.n ∧ (runK (S.K t) (S.L t) t m.hold j).1 r = (a : Int) := fun r hr => by
    rcases (hrun r hr).2.2 with g | g | g
    · exact .inl g
    · exact .inr ⟨t, ht, g⟩
    · rw [g]; exact h.own r hr
  by_cases hpl : (runK (S.K t) (S.L t) t m.hold j).2.p < S.L t
  · have e : tickAt S m t j l = ({ m with now := m.now + 1, hold := (runK (S.K t) (S.L t) t m.hold j).1, q := upd m.q t ((runK (S.K t) (S.L t) t m.hold j).2 :: l) }, false) := by
      unfold tickAt
      exact if_pos hpl
    rw [e]
    refine ⟨hown, fun r a hr ha => ?_, fun a ha x hx => ?_, fun a x y ha hqa hxp => ?_, fun a x y ha hqa => ?_, hpair⟩
    · show (runK (S.K t) (S.L t) t m.hold j).1 r = (a : Int) ↔ ∃ x y, upd m.q t ((runK (S.K t) (S.L t) t m.hold j).2 :: l) a = x :: y ∧ Inside S a x.p r
      by_cases ea : a = t
      · subst ea
        rw [upd_same]
        rw [(hrun r hr).1]
        exact ⟨fun g => ⟨_, _, rfl, g⟩, fun ⟨x, y, e1, e2⟩ => by cases e1; exact e2⟩
      · rw [upd_other _ _ ea, (hrun r hr).2.1 a ea]
        exact h.iff r a hr ha
    · have hx' : x ∈ upd m.q t ((runK (S.K t) (S.L t) t m.hold j).2 :: l) a := hx
      by_cases ea : a = t
      · subst ea
        rw [upd_same] at hx'
        rcases List.mem_cons.1 hx' with rfl | hx2
        · exact hnum'
        · exact h.num a ha x (by rw [hq]; simp [hx2])
      · rw [upd_other _ _ ea] at hx'
        exact h.num a ha x hx'
    · have hqa' : upd m.q t ((runK (S.K t) (S.L t) t m.hold j).2 :: l) a = x :: y := hqa
      show x.rel ≤ m.now + 1
      by_cases ea : a = t
      · subst ea
        rw [upd_same] at hqa'
        cases hqa'
        rw [k5]; omega
      · rw [upd_other _ _ ea] at hqa'
        have := h.rel a x y ha hqa' hxp
        omega
    · have hqa' : upd m.q t ((runK (S.K t) (S.L t) t m.hold j).2 :: l) a = x :: y := hqa
      by_cases ea : a = t
      · subst ea
        rw [upd_same] at hqa'
        cases hqa'
        exact h.rest a j l ha hq
      · rw [upd_other _ _ ea] at hqa'
        exact h.rest a x y ha hqa'
  · have hpe : (runK (S.K t) (S.L t) t m.hold j).2.p = S.L t := by omega
    have e : tickAt S m t j l = ({ m with now := m.now + 1, hold := (runK (S.K t) (S.L t) t m.hold j).1, q := upd m.q t l, done := upd m.done t (m.done t + 1), kept := keep m.kept ⟨t, j.arr, j.rel, m.now + 1, (runK (S.K t) (S.L t) t m.hold j).2.left, j.ord⟩ }, true) := by
      unfold tickAt
      exact if_neg hpl
    rw [e]
    have hl0 := h.rest t j l ht hq
    refine ⟨hown, fun r a hr ha => ?_, fun a ha x hx => ?_, fun a x y ha hqa hxp => ?_, fun a x y ha hqa => ?_, hpair⟩
    · show (runK (S.K t) (S.L t) t m.hold j).1 r = (a : Int) ↔ ∃ x y, upd m.q t l a = x :: y ∧ Inside S a x.p r
      by_cases ea : a = t
      · subst ea
        rw [upd_same, (hrun r hr).1, hpe]
        constructor
        · intro g; exact absurd g inside_end
        · rintro ⟨x, y, e1, e2⟩
          rw [hl0 x (by rw [e1]; simp)] at e2
          exact absurd e2 inside_zero
      · rw [upd_other _ _ ea, (hrun r hr).2.1 a ea]
        exact h.iff r a hr ha
    · have hx' : x ∈ upd m.q t l a := hx
      by_cases ea : a = t
      · subst ea
        rw [upd_same] at hx'
        exact h.num a ha x (by rw [hq]; simp [hx'])
      · rw [upd_other _ _ ea] at hx'
        exact h.num a ha x hx'
    · have hqa' : upd m.q t l a = x :: y := hqa
      show x.rel ≤ m.now + 1
      by_cases ea : a = t
      · subst ea
        rw [upd_same] at hqa'
        have := hl0 x (by rw [hqa']; simp)
        omega
      · rw [upd_other _ _ ea] at hqa'
        have := h.rel a x y ha hqa' hxp
        omega
    · have hqa' : upd m.q t l a = x :: y := hqa
      by_cases ea : a = t
      · subst ea
        rw [upd_same] at hqa'
        exact fun z hz => hl0 z (by rw [hqa']; simp [hz])
      · rw [upd_other _ _ ea] at hqa'
        exact h.rest a x y ha hqa'

theorem lk_tick {S : Sy} {m : Mc} (hs : SyOk S) (ho : Ok S m) (h : LkInv S m) : LkInv S (tick S m).1 := by
  rcases tick_cases S m with ⟨_, e⟩ | ⟨t, j, l, ht, hq, hr, hc, e⟩
  · rw [e]; exact lk_later h _ _ (by omega)
  · rw [e]; exact lk_tickAt hs ho h ht hq hr hc

theorem lk_added {S : Sy} {m : Mc} (h : LkInv S m) {t : Nat} (ht : t < S.n) {jit : Int} {D : Nat → Int} {d : Nat} (hf : Fits (S.K t) (S.N t) (S.L t) D d) : LkInv S (added S m t jit D) := by
  have hnew : (jobOf S m t jit D).p = 0 := rfl
  refine ⟨h.own, fun r a hr ha => ?_, fun a ha x hx => ?_, fun a x y ha hqa hxp => ?_, fun a x y ha hqa => ?_, h.pair⟩
  · show m.hold r = (a : Int) ↔ ∃ x y, upd m.q t (m.q t ++ [jobOf S m t jit D]) a = x :: y ∧ Inside S a x.p r
    by_cases ea : a = t
    · subst ea
      rw [upd_same, h.iff r a hr ha]
      cases hq : m.q a with
      | nil =>
        constructor
        · rintro ⟨x, y, e1, _⟩; cases e1
        · rintro ⟨x, y, e1, e2⟩
          simp at e1
          rw [← e1.1, hnew] at e2
          exact absurd e2 inside_zero
      | cons j l =>
        constructor
        · rintro ⟨x, y, e1, e2⟩
          cases e1
          exact ⟨_, _, rfl, e2⟩
        · rintro ⟨x, y, e1, e2⟩
          simp at e1
          rw [← e1.1] at e2
          exact ⟨_, _, rfl, e2⟩
    · rw [upd_other _ _ ea]
      exact h.iff r a hr ha
  · have hx' : x ∈ upd m.q t (m.q t ++ [jobOf S m t jit D]) a := hx
    by_cases ea : a = t
    · subst ea
      rw [upd_same] at hx'
      rcases List.mem_append.1 hx' with g | g
      · exact h.num a ha x g
      · have : x = jobOf S m a jit D := by simpa using g
        subst this
        intro k hk
        show (_ → numOf _ _ _ k = _) ∧ (_ → numOf _ _ _ k ≤ _)
        unfold numOf
        exact ⟨fun h1 => by rw [if_neg h1], fun h1 => by rw [if_pos h1]; exact (hf.1 k hk h1).2.2⟩
    · rw [upd_other _ _ ea] at hx'
      exact h.num a ha x hx'
  · have hqa' : upd m.q t (m.q t ++ [jobOf S m t jit D]) a = x :: y := hqa
    show x.rel ≤ m.now
    by_cases ea : a = t
    · subst ea
      rw [upd_same] at hqa'
      cases hq : m.q a with
      | nil =>
        rw [hq] at hqa'
        simp at hqa'
        rw [← hqa'.1, hnew] at hxp
        omega
      | cons j l =>
        rw [hq] at hqa'
        simp at hqa'
        rw [← hqa'.1] at hxp ⊢
        exact h.rel a j l ha hq hxp
    · rw [upd_other _ _ ea] at hqa'
      exact h.rel a x y ha hqa' hxp
  · have hqa' : upd m.q t (m.q t ++ [jobOf S m t jit D]) a = x :: y := hqa
    by_cases ea : a = t
    · subst ea
      rw [upd_same] at hqa'
      cases hq : m.q a with
      | nil =>
        rw [hq] at hqa'
        simp at hqa'
        rw [hqa'.2]
        intro z hz; cases hz
      | cons j l =>
        rw [hq] at hqa'
        simp at hqa'
        rw [← hqa'.2]
        intro z hz
        rcases List.mem_append.1 hz with g | g
        · exact h.rest a j l ha hq z g
        · have : z = jobOf S m a jit D := by simpa using g
          rw [this]
          rfl
    · rw [upd_other _ _ ea] at hqa'
      exact h.rest a x y ha hqa'

end Go.Proofs.Ytdabcflpcklfiaa.Cad
