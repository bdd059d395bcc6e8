import Derived.Test.YtdabcflpcklfiaaMach2
/- Plain mathematics: who holds what; a Lock finds its resource free. -/
namespace Go.Proofs.Ytdabcflpcklfiaa.Cad

/-- What is asked of tasks and priorities. -/
structure SyOk (S : Sy) : Prop where
  prog : ∀ t, t < S.n → progB (S.K t) (S.N t) (S.L t) = true
  inj : ∀ a b, a < S.n → b < S.n → S.Z a = S.Z b → a = b
  ceil : ∀ t k, t < S.n → k < S.L t → S.K t k = 2 → S.Z t ≤ S.C (S.N t k).toNat

/-- At place p a job of task t is inside a section of r. -/
def Inside (S : Sy) (t p : Nat) (r : Nat) : Prop := ∃ k e, Closed (S.K t) (S.N t) (r : Int) k e (S.L t) ∧ k < p ∧ p ≤ e

structure LkInv (S : Sy) (m : Mc) : Prop where
  own : ∀ r, r < 8 → m.hold r = -1 ∨ ∃ t, t < S.n ∧ m.hold r = (t : Int)
  iff : ∀ r t, r < 8 → t < S.n → (m.hold r = (t : Int) ↔ ∃ j l, m.q t = j :: l ∧ Inside S t j.p r)
  num : ∀ t, t < S.n → ∀ j ∈ m.q t, ∀ k, k < S.L t → (S.K t k ≠ 1 → j.N k = S.N t k) ∧ (S.K t k = 1 → j.N k ≤ S.N t k)
  rel : ∀ t j l, t < S.n → m.q t = j :: l → 0 < j.p → j.rel ≤ m.now
  rest : ∀ t j l, t < S.n → m.q t = j :: l → ∀ x ∈ l, x.p = 0
  pair : ∀ a b, a < S.n → b < S.n → a ≠ b → (∃ r, r < 8 ∧ m.hold r = (a : Int)) → (∃ r, r < 8 ∧ m.hold r = (b : Int)) → (∀ r, r < 8 → m.hold r = (a : Int) → S.C r < S.Z b) ∨ (∀ r, r < 8 → m.hold r = (b : Int) → S.C r < S.Z a)

theorem setTo_spec (N : Nat → Int) (v : Int) (h : Nat → Int) (p : Nat) : ∀ d r, ((∃ k, p ≤ k ∧ k < p + d ∧ (N k).toNat = r) → setTo N v h p d r = v) ∧ ((¬ ∃ k, p ≤ k ∧ k < p + d ∧ (N k).toNat = r) → setTo N v h p d r = h r)
  | 0, r => ⟨fun ⟨k, h1, h2, _⟩ => by omega, fun _ => rfl⟩
  | d + 1, r => by
    obtain ⟨i1, i2⟩ := setTo_spec N v h p d r
    unfold setTo upd
    by_cases e : r = (N (p + d)).toNat
    · rw [if_pos e]
      exact ⟨fun _ => rfl, fun hn => absurd ⟨p + d, by omega, by omega, e.symm⟩ hn⟩
    · rw [if_neg e]
      refine ⟨fun ⟨k, h1, h2, h3⟩ => i1 ⟨k, h1, ?_, h3⟩, fun hn => i2 (fun ⟨k, h1, h2, h3⟩ => hn ⟨k, h1, by omega, h3⟩)⟩
      rcases Nat.lt_or_ge k (p + d) with g | g
      · exact g
      · have : k = p + d := by omega
        rw [this] at h3
        exact absurd h3.symm e

theorem act_spec (S : Sy) (h : Nat → Int) (t : Nat) : ∀ R, S.Z t ≤ (actTo S h t R).1 ∧ (∀ r, r < R → h r = (t : Int) → S.C r ≤ (actTo S h t R).1) ∧ ((actTo S h t R).1 = S.Z t ∨ ∃ r, r < R ∧ h r = (t : Int) ∧ (actTo S h t R).1 = S.C r) ∧
    ((∃ r, r < R ∧ h r = (t : Int)) → (actTo S h t R).2 = 1) ∧ ((¬ ∃ r, r < R ∧ h r = (t : Int)) → (actTo S h t R).2 = 0 ∧ (actTo S h t R).1 = S.Z t)
  | 0 => ⟨Int.le_refl _, fun r hr => by omega, .inl rfl, fun ⟨r, hr, _⟩ => by omega, fun _ => ⟨rfl, rfl⟩⟩
  | R + 1 => by
    obtain ⟨i1, i2, i3, i4, i5⟩ := act_spec S h t R
    unfold actTo
    by_cases e : h R = (t : Int)
    · rw [if_pos e]
      refine ⟨by show S.Z t ≤ max _ _; omega, fun r hr he => ?_, ?_, fun _ => rfl, fun hn => absurd ⟨R, by omega, e⟩ hn⟩
      · show S.C r ≤ max _ _
        by_cases g : r = R
        · subst g; omega
        · have := i2 r (by omega) he; omega
      · show max _ _ = _ ∨ _
        by_cases g : (actTo S h t R).1 ≤ S.C R
        · exact .inr ⟨R, by omega, e, by show max _ _ = _; omega⟩
        · rcases i3 with h3 | ⟨r, h3, h4, h5⟩
          · exact .inl (by omega)
          · exact .inr ⟨r, by omega, h4, by show max _ _ = _; omega⟩
    · rw [if_neg e]
      refine ⟨i1, fun r hr he => ?_, ?_, fun ⟨r, hr, he⟩ => ?_, fun hn => i5 (fun ⟨r, hr, he⟩ => hn ⟨r, by omega, he⟩)⟩
      · by_cases g : r = R
        · subst g; exact absurd he e
        · exact i2 r (by omega) he
      · rcases i3 with h3 | ⟨r, h3, h4⟩
        · exact .inl h3
        · exact .inr ⟨r, by omega, h4⟩
      · by_cases g : r = R
        · subst g; exact absurd he e
        · exact i4 ⟨r, by omega, he⟩

theorem chTo_max (S : Sy) (m : Mc) : ∀ k a, a < k → readyB m a = true → rank S m.hold a ≤ (chTo S m k).2
  | 0, a, ha, _ => by omega
  | k + 1, a, ha, hr => by
    have ih := chTo_max S m k
    unfold chTo
    by_cases c : readyB m k = true ∧ (chTo S m k).2 < rank S m.hold k
    · rw [if_pos c]
      show _ ≤ rank S m.hold k
      by_cases e : a = k
      · subst e; exact Int.le_refl _
      · have := ih a (by omega) hr; omega
    · rw [if_neg c]
      by_cases e : a = k
      · subst e
        rcases Int.lt_or_le (chTo S m a).2 (rank S m.hold a) with g | g
        · exact absurd ⟨hr, g⟩ c
        · exact g
      · exact ih a (by omega) hr

/-- The chosen one ranks at least as high as each that is ready. -/
theorem chosen_max {S : Sy} {m : Mc} {t a : Nat} (hc : (chTo S m S.n).1 = (t : Int)) (ha : a < S.n) (hr : readyB m a = true) : t < S.n ∧ readyB m t = true ∧ rank S m.hold a ≤ rank S m.hold t := by
  rcases chTo_range S m S.n with ⟨h1, _⟩ | ⟨t', h1, h2, h3, h4⟩
  · rw [h1] at hc; omega
  · have : t' = t := by rw [h2] at hc; omega
    subst this
    exact ⟨h1, h3, by rw [← h4]; exact chTo_max S m S.n a ha hr⟩

/-- Who holds something is ready. -/
theorem LkInv.ready {S : Sy} {m : Mc} (h : LkInv S m) {a : Nat} (ha : a < S.n) (hh : ∃ r, r < 8 ∧ m.hold r = (a : Int)) : readyB m a = true := by
  obtain ⟨r, hr, e⟩ := hh
  obtain ⟨j, l, hq, k, e2, _, hk, _⟩ := (h.iff r a hr ha).1 e
  unfold readyB
  rw [hq]
  simp only [decide_eq_true_eq]
  exact h.rel a j l ha hq (by omega)

/-- Whoever holds r locks it, so its ceiling is at least the task's priority. -/
theorem LkInv.ceil {S : Sy} {m : Mc} (hs : SyOk S) (h : LkInv S m) {a r : Nat} (ha : a < S.n) (hr : r < 8) (e : m.hold r = (a : Int)) : S.Z a ≤ S.C r := by
  obtain ⟨j, l, hq, k, e2, hc, hk, _⟩ := (h.iff r a hr ha).1 e
  have := hs.ceil a k ha (by have := hc.1; have := hc.2.1; omega) hc.2.2.1
  rw [hc.2.2.2.1] at this
  simpa using this

/-- All that others hold has ceilings below the chosen one's priority. -/
theorem chosen_over {S : Sy} {m : Mc} (hs : SyOk S) (h : LkInv S m) {t a : Nat} (hc : (chTo S m S.n).1 = (t : Int)) (ha : a < S.n) (hne : a ≠ t) : ∀ r, r < 8 → m.hold r = (a : Int) → S.C r < S.Z t := by
  intro r hr e
  have hra := h.ready ha ⟨r, hr, e⟩
  obtain ⟨ht, hrt, hle⟩ := chosen_max hc ha hra
  obtain ⟨a1, a2, a3, a4, a5⟩ := act_spec S m.hold a 8
  obtain ⟨t1, t2, t3, t4, t5⟩ := act_spec S m.hold t 8
  have ha2 := a4 ⟨r, hr, e⟩
  have hcr := a2 r hr e
  unfold rank at hle
  by_cases hh : ∃ r, r < 8 ∧ m.hold r = (t : Int)
  · have ht2 := t4 hh
    rcases h.pair a t ha ht hne ⟨r, hr, e⟩ hh with g | g
    · exact g r hr e
    · exfalso
      obtain ⟨r0, hr0, e0⟩ := hh
      have hz := h.ceil hs ht hr0 e0
      have hz2 := g r0 hr0 e0
      rcases t3 with h3 | ⟨r1, h3, h4, h5⟩
      · omega
      · have := g r1 h3 h4
        omega
  · obtain ⟨t6, t7⟩ := t5 hh
    omega

/-- P12: a Lock finds its resource free. -/
theorem lock_free_of {S : Sy} {m : Mc} (hs : SyOk S) (h : LkInv S m) {t k : Nat} (hc : (chTo S m S.n).1 = (t : Int)) (ht : t < S.n) (hk : k < S.L t) (h2 : S.K t k = 2) {r : Nat} (hr : r < 8) (hn : S.N t k = (r : Int)) : m.hold r = -1 ∨ m.hold r = (t : Int) := by
  rcases h.own r hr with g | ⟨a, ha, g⟩
  · exact .inl g
  · by_cases e : a = t
    · subst e; exact .inr g
    · exfalso
      have h1 := chosen_over hs h hc ha e r hr g
      have h3 := hs.ceil t k ht hk h2
      rw [hn] at h3
      have h4 : S.Z t ≤ S.C r := by simpa using h3
      omega

end Go.Proofs.Ytdabcflpcklfiaa.Cad
