import Derived.Test.YtdabcflpcklfiaaGreatA25
import Derived.Test.YtdabcflpcklfiaaGreatA05
/- A kernel of whatever tasks and priorities is opened, or refused. -/
namespace Go.Proofs.YtdabcflpcklfiaaGreat
open Go.RowKit Cad

end Go.Proofs.YtdabcflpcklfiaaGreat

/- Plain mathematics: who holds what; a Lock finds its resource free. -/
namespace Go.Proofs.YtdabcflpcklfiaaGreat.Cad

/-- What is asked of tasks and priorities. -/
structure SyOk (S : Sy) : Prop where
  prog : ∀ t, t < S.n → progB (S.K t) (S.N t) (S.L t) = true
  inj : ∀ a b, a < S.n → b < S.n → S.Z a = S.Z b → a = b
  ceil : ∀ t k, t < S.n → k < S.L t → S.K t k = 2 → S.Z t ≤ S.C (S.N t k).toNat

/-- At place p a job of task t is inside a section of r. -/
def Inside (S : Sy) (t p : Nat) (r : Nat) : Prop := ∃ k e, Closed (S.K t) (S.N t) (r : Int) k e (S.L t) ∧ k < p ∧ p ≤ e

structure LkInv (S : Sy) (m : Mc) : Prop where
  own : ∀ r, r < 8 → m.hold r = -1 ∨ ∃ t, t < S.n ∧ m.hold r = (t : Int)
  iff : ∀ r t, r < 8 → t < S.n → (m.hold r = (t : Int) ↔ ∃ j l, m.q t = j :: l ∧ Inside S t j.p r)
  num : ∀ t, t < S.n → ∀ j ∈ m.q t, ∀ k, k < S.L t → (S.K t k ≠ 1 → j.N k = S.N t k) ∧ (S.K t k = 1 → j.N k ≤ S.N t k)
  rel : ∀ t j l, t < S.n → m.q t = j :: l → 0 < j.p → j.rel ≤ m.now
  rest : ∀ t j l, t < S.n → m.q t = j :: l → ∀ x ∈ l, x.p = 0
  pair : ∀ a b, a < S.n → b < S.n → a ≠ b → (∃ r, r < 8 ∧ m.hold r = (a : Int)) → (∃ r, r < 8 ∧ m.hold r = (b : Int)) → (∀ r, r < 8 → m.hold r = (a : Int) → S.C r < S.Z b) ∨ (∀ r, r < 8 → m.hold r = (b : Int) → S.C r < S.Z a)

theorem setTo_spec (N : Nat → Int) (v : Int) (h : Nat → Int) (p : Nat) : ∀ d r, ((∃ k, p ≤ k ∧ k < p + d ∧ (N k).toNat = r) → setTo N v h p d r = v) ∧ ((¬ ∃ k, p ≤ k ∧ k < p + d ∧ (N k).toNat = r) → setTo N v h p d r = h r)
  | 0, r => ⟨fun ⟨k, h1, h2, _⟩ => by omega, fun _ => rfl⟩
  | d + 1, r => by
    obtain ⟨i1, i2⟩ := setTo_spec N v h p d r
    unfold setTo upd
    by_cases e : r = (N (p + d)).toNat
    · rw [if_pos e]
      exact ⟨fun _ => rfl, fun hn => absurd ⟨p + d, by omega, by omega, e.symm⟩ hn⟩
    · rw [if_neg e]
      refine ⟨fun ⟨k, h1, h2, h3⟩ => i1 ⟨k, h1, ?_, h3⟩, fun hn => i2 (fun ⟨k, h1, h2, h3⟩ => hn ⟨k, h1, by omega, h3⟩)⟩
      rcases Nat.lt_or_ge k (p + d) with g | g
      · exact g
      · have : k = p + d := by omega
        rw [this] at h3
        exact absurd h3.symm e

theorem act_spec (S : Sy) (h : Nat → Int) (t : Nat) : ∀ R, S.Z t ≤ (actTo S h t R).1 ∧ (∀ r, r < R → h r = (t : Int) → S.C r ≤ (actTo S h t R).1) ∧ ((actTo S h t R).1 = S.Z t ∨ ∃ r, r < R ∧ h r = (t : Int) ∧ (actTo S h t R).1 = S.C r) ∧
    ((∃ r, r < R ∧ h r = (t : Int)) → (actTo S h t R).2 = 1) ∧ ((¬ ∃ r, r < R ∧ h r = (t : Int)) → (actTo S h t R).2 = 0 ∧ (actTo S h t R).1 = S.Z t)
  | 0 => ⟨Int.le_refl _, fun r hr => by omega, .inl rfl, fun ⟨r, hr, _⟩ => by omega, fun _ => ⟨rfl, rfl⟩⟩
  | R + 1 => by
    obtain ⟨i1, i2, i3, i4, i5⟩ := act_spec S h t R
    unfold actTo
    by_cases e : h R = (t : Int)
    · rw [if_pos e]
      refine ⟨by show S.Z t ≤ max _ _; omega, fun r hr he => ?_, ?_, fun _ => rfl, fun hn => absurd ⟨R, by omega, e⟩ hn⟩
      · show S.C r ≤ max _ _
        by_cases g : r = R
        · subst g; omega
        · have := i2 r (by omega) he; omega
      · show max _ _ = _ ∨ _
        by_cases g : (actTo S h t R).1 ≤ S.C R
        · exact .inr ⟨R, by omega, e, by show max _ _ = _; omega⟩
        · rcases i3 with h3 | ⟨r, h3, h4, h5⟩
          · exact .inl (by omega)
          · exact .inr ⟨r, by omega, h4, by show max _ _ = _; omega⟩
    · rw [if_neg e]
      refine ⟨i1, fun r hr he => ?_, ?_, fun ⟨r, hr, he⟩ => ?_, fun hn => i5 (fun ⟨r, hr, he⟩ => hn ⟨r, by omega, he⟩)⟩
      · by_cases g : r = R
        · subst g; exact absurd he e
        · exact i2 r (by omega) he
      · rcases i3 with h3 | ⟨r, h3, h4⟩
        · exact .inl h3
        · exact .inr ⟨r, by omega, h4⟩
      · by_cases g : r = R
        · subst g; exact absurd he e
        · exact i4 ⟨r, by omega, he⟩

theorem chTo_max (S : Sy) (m : Mc) : ∀ k a, a < k → readyB m a = true → rank S m.hold a ≤ (chTo S m k).2
  | 0, a, ha, _ => by omega
  | k + 1, a, ha, hr => by
    have ih := chTo_max S m k
    unfold chTo
    by_cases c : readyB m k = true ∧ (chTo S m k).2 < rank S m.hold k
    · rw [if_pos c]
      show _ ≤ rank S m.hold k
      by_cases e : a = k
      · subst e; exact Int.le_refl _
      · have := ih a (by omega) hr; omega
    · rw [if_neg c]
      by_cases e : a = k
      · subst e
        rcases Int.lt_or_le (chTo S m a).2 (rank S m.hold a) with g | g
        · exact absurd ⟨hr, g⟩ c
        · exact g
      · exact ih a (by omega) hr

/-- The chosen one ranks at least as high as each that is ready. -/
theorem chosen_max {S : Sy} {m : Mc} {t a : Nat} (hc : (chTo S m S.n).1 = (t : Int)) (ha : a < S.n) (hr : readyB m a = true) : t < S.n ∧ readyB m t = true ∧ rank S m.hold a ≤ rank S m.hold t := by
  rcases chTo_range S m S.n with ⟨h1, _⟩ | ⟨t', h1, h2, h3, h4⟩
  · rw [h1] at hc; omega
  · have : t' = t := by rw [h2] at hc; omega
    subst this
    exact ⟨h1, h3, by rw [← h4]; exact chTo_max S m S.n a ha hr⟩

/-- Who holds something is ready. -/
theorem LkInv.ready {S : Sy} {m : Mc} (h : LkInv S m) {a : Nat} (ha : a < S.n) (hh : ∃ r, r < 8 ∧ m.hold r = (a : Int)) : readyB m a = true := by
  obtain ⟨r, hr, e⟩ := hh
  obtain ⟨j, l, hq, k, e2, _, hk, _⟩ := (h.iff r a hr ha).1 e
  unfold readyB
  rw [hq]
  simp only [decide_eq_true_eq]
  exact h.rel a j l ha hq (by omega)

/-- Whoever holds r locks it, so its ceiling is at least the task's priority. -/
theorem LkInv.ceil {S : Sy} {m : Mc} (hs : SyOk S) (h : LkInv S m) {a r : Nat} (ha : a < S.n) (hr : r < 8) (e : m.hold r = (a : Int)) : S.Z a ≤ S.C r := by
  obtain ⟨j, l, hq, k, e2, hc, hk, _⟩ := (h.iff r a hr ha).1 e
  have := hs.ceil a k ha (by have := hc.1; have := hc.2.1; omega) hc.2.2.1
  rw [hc.2.2.2.1] at this
  simpa using this

/-- All that others hold has ceilings below the chosen one's priority. -/
theorem chosen_over {S : Sy} {m : Mc} (hs : SyOk S) (h : LkInv S m) {t a : Nat} (hc : (chTo S m S.n).1 = (t : Int)) (ha : a < S.n) (hne : a ≠ t) : ∀ r, r < 8 → m.hold r = (a : Int) → S.C r < S.Z t := by
  intro r hr e
  have hra := h.ready ha ⟨r, hr, e⟩
  obtain ⟨ht, hrt, hle⟩ := chosen_max hc ha hra
  obtain ⟨a1, a2, a3, a4, a5⟩ := act_spec S m.hold a 8
  obtain ⟨t1, t2, t3, t4, t5⟩ := act_spec S m.hold t 8
  have ha2 := a4 ⟨r, hr, e⟩
  have hcr := a2 r hr e
  unfold rank at hle
  by_cases hh : ∃ r, r < 8 ∧ m.hold r = (t : Int)
  · have ht2 := t4 hh
    rcases h.pair a t ha ht hne ⟨r, hr, e⟩ hh with g | g
    · exact g r hr e
    · exfalso
      obtain ⟨r0, hr0, e0⟩ := hh
      have hz := h.ceil hs ht hr0 e0
      have hz2 := g r0 hr0 e0
      rcases t3 with h3 | ⟨r1, h3, h4, h5⟩
      · omega
      · have := g r1 h3 h4
        omega
  · obtain ⟨t6, t7⟩ := t5 hh
    omega

/-- P12: a Lock finds its resource free. -/
theorem lock_free_of {S : Sy} {m : Mc} (hs : SyOk S) (h : LkInv S m) {t k : Nat} (hc : (chTo S m S.n).1 = (t : Int)) (ht : t < S.n) (hk : k < S.L t) (h2 : S.K t k = 2) {r : Nat} (hr : r < 8) (hn : S.N t k = (r : Int)) : m.hold r = -1 ∨ m.hold r = (t : Int) := by
  rcases h.own r hr with g | ⟨a, ha, g⟩
  · exact .inl g
  · by_cases e : a = t
    · subst e; exact .inr g
    · exfalso
      have h1 := chosen_over hs h hc ha e r hr g
      have h3 := hs.ceil t k ht hk h2
      rw [hn] at h3
      have h4 : S.Z t ≤ S.C r := by simpa using h3
      omega

end Go.Proofs.YtdabcflpcklfiaaGreat.Cad

/- Plain mathematics: who holds what, behind a tick and behind an arrival. -/
namespace Go.Proofs.YtdabcflpcklfiaaGreat.Cad

theorem st_some {K N : Nat → Int} {L e : Nat} (h : progB K N L = true) (he : e ≤ L) : ∃ s, stTo K N e = some s := by
  simp only [progB, decide_eq_true_eq] at h
  cases hs : stTo K N e with
  | some s => exact ⟨s, rfl⟩
  | none =>
    have := stTo_none K N e L he hs
    rw [h.2.2.2] at this
    cases this

/-- An Unlock ends a section. -/
theorem unlock_closed {K N : Nat → Int} {L e : Nat} (h : progB K N L = true) (he : e < L) (h3 : K e = 3) : ∃ k, Closed K N (N e) k e L := by
  obtain ⟨s, hs⟩ := st_some h (Nat.le_of_lt he)
  obtain ⟨s', hs'⟩ := st_some h (show e + 1 ≤ L from he)
  have hI := prog_inv K N e s hs
  simp only [stTo, hs, Option.bind_some] at hs'
  have hl : s.getLast? = some (N e) := by
    unfold stepF at hs'
    rw [if_neg (by omega), if_neg (by omega), if_pos h3] at hs'
    split at hs'
    · rename_i c; exact c.2
    · cases hs'
  have hmem : N e ∈ s := List.mem_of_getLast? hl
  obtain ⟨k, h1, h2, h4, _, h5, _⟩ := hI.held _ hmem
  exact ⟨k, h1, he, h2, h4, h3, rfl, fun t a b => h5 t a b⟩

theorem lock_closed {K N : Nat → Int} {L k : Nat} (h : progB K N L = true) (hk : k < L) (h2 : K k = 2) : ∃ e, Closed K N (N k) k e L := by
  obtain ⟨_, _, _, I⟩ := progB_inv h
  rcases I.locks (N k) k hk h2 rfl with ⟨e, hc, _⟩ | ⟨hr, _⟩
  · exact ⟨e, hc⟩
  · cases hr

theorem inside_lock {S : Sy} {t p p1 r : Nat} (hp : progB (S.K t) (S.N t) (S.L t) = true) (h1 : p ≤ p1) (h2 : p1 ≤ S.L t) (hl : ∀ k, p ≤ k → k < p1 → S.K t k = 2) :
    Inside S t p1 r ↔ (Inside S t p r ∨ ∃ k, p ≤ k ∧ k < p1 ∧ S.N t k = (r : Int)) := by
  constructor
  · rintro ⟨k, e, hc, hk, he⟩
    rcases Nat.lt_or_ge k p with g | g
    · exact .inl ⟨k, e, hc, g, by omega⟩
    · exact .inr ⟨k, g, hk, hc.2.2.2.1⟩
  · have hout : ∀ e, S.K t e = 3 → p ≤ e → p1 ≤ e := fun e h3 hpe => by
      rcases Nat.lt_or_ge e p1 with g | g
      · have := hl e hpe g; omega
      · exact g
    rintro (⟨k, e, hc, hk, he⟩ | ⟨k, hk1, hk2, hn⟩)
    · exact ⟨k, e, hc, by omega, hout e hc.2.2.2.2.1 he⟩
    · obtain ⟨e, hc⟩ := lock_closed hp (show k < S.L t by omega) (hl k hk1 hk2)
      rw [hn] at hc
      exact ⟨k, e, hc, hk2, hout e hc.2.2.2.2.1 (by have := hc.1; omega)⟩

theorem inside_unlock {S : Sy} {t p1 p2 r : Nat} (h1 : S.K t p1 = 1) (h2 : p1 + 1 ≤ p2) (hl : ∀ k, p1 + 1 ≤ k → k < p2 → S.K t k = 3) :
    Inside S t p2 r ↔ (Inside S t p1 r ∧ ¬ ∃ k, p1 + 1 ≤ k ∧ k < p2 ∧ S.N t k = (r : Int)) := by
  constructor
  · rintro ⟨k, e, hc, hk, he⟩
    have hkp : k < p1 := by
      rcases Nat.lt_or_ge k p1 with g | g
      · exact g
      · exfalso
        have h2k := hc.2.2.1
        by_cases e1 : k = p1
        · rw [e1] at h2k; omega
        · have := hl k (by omega) hk; omega
    refine ⟨⟨k, e, hc, hkp, by omega⟩, fun ⟨q, q1, q2, q3⟩ => ?_⟩
    have := hl q q1 q2
    by_cases e1 : q = e
    · omega
    · exact hc.2.2.2.2.2.2 q (by omega) (by omega) ⟨this, q3⟩
  · rintro ⟨⟨k, e, hc, hk, he⟩, hn⟩
    refine ⟨k, e, hc, by omega, ?_⟩
    rcases Nat.lt_or_ge e p2 with g | g
    · exfalso
      have h3 := hc.2.2.2.2.1
      by_cases e1 : e = p1
      · rw [e1] at h3; omega
      · exact hn ⟨e, by omega, g, hc.2.2.2.2.2.1⟩
    · exact g

/-- Who holds what behind a job's tick. -/
theorem run_hold {S : Sy} {t : Nat} {h : Nat → Int} {j : Jb} (hp : progB (S.K t) (S.N t) (S.L t) = true) (hj : JbOk (S.K t) (S.L t) j) (hnum : ∀ k, k < S.L t → S.K t k ≠ 1 → j.N k = S.N t k)
    {r : Nat} (hiff : h r = (t : Int) ↔ Inside S t j.p r) (hfree : ∀ k, k < S.L t → S.K t k = 2 → S.N t k = (r : Int) → h r = -1 ∨ h r = (t : Int)) :
    ((runK (S.K t) (S.L t) t h j).1 r = (t : Int) ↔ Inside S t (runK (S.K t) (S.L t) t h j).2.p r) ∧ (∀ a : Nat, a ≠ t → ((runK (S.K t) (S.L t) t h j).1 r = (a : Int) ↔ h r = (a : Int))) ∧
    ((runK (S.K t) (S.L t) t h j).1 r = -1 ∨ (runK (S.K t) (S.L t) t h j).1 r = (t : Int) ∨ (runK (S.K t) (S.L t) t h j).1 r = h r) := by
  obtain ⟨p1, hp1⟩ : ∃ p1, p1 = skip (S.K t) 2 (S.L t) j.p := ⟨_, rfl⟩
  have hsp := skip_spec (S.K t) 2 (L := S.L t) (p := j.p) (by have := hj.lt; omega)
  have hsl := skipLt hj
  rw [← hp1] at hsp hsl
  have hin1 := inside_lock (r := r) hp hsp.1 hsp.2.1 hsp.2.2.1
  have htoN : ∀ k, k < S.L t → S.K t k ≠ 1 → ((j.N k).toNat = r ↔ S.N t k = (r : Int)) := fun k hk h1 => by
    have := (progB_inv hp).2.2.2.steps k hk
    rw [hnum k hk h1]
    rcases this with g | g | g
    · exact absurd g.1 h1
    · omega
    · omega
  have hA : (∃ k, j.p ≤ k ∧ k < j.p + (p1 - j.p) ∧ (j.N k).toNat = r) ↔ ∃ k, j.p ≤ k ∧ k < p1 ∧ S.N t k = (r : Int) := by
    constructor
    · rintro ⟨k, a, b, c⟩
      exact ⟨k, a, by omega, (htoN k (by omega) (by rw [hsp.2.2.1 k a (by omega)]; decide)).1 c⟩
    · rintro ⟨k, a, b, c⟩
      exact ⟨k, a, by omega, (htoN k (by omega) (by rw [hsp.2.2.1 k a b]; decide)).2 c⟩
  obtain ⟨s1, s2⟩ := setTo_spec j.N (t : Int) h j.p (p1 - j.p) r
  obtain ⟨h1, hh1⟩ : ∃ h1, h1 = setTo j.N (t : Int) h j.p (p1 - j.p) := ⟨_, rfl⟩
  rw [← hh1] at s1 s2
  -- behind the Locks
  have k1 : (h1 r = (t : Int) ↔ Inside S t p1 r) ∧ (∀ a : Nat, a ≠ t → (h1 r = (a : Int) ↔ h r = (a : Int))) ∧ (h1 r = (t : Int) ∨ h1 r = h r) := by
    by_cases c : ∃ k, j.p ≤ k ∧ k < p1 ∧ S.N t k = (r : Int)
    · have e := s1 (hA.2 c)
      refine ⟨⟨fun _ => hin1.2 (.inr c), fun _ => e⟩, fun a ha => ?_, .inl e⟩
      obtain ⟨k, c1, c2, c3⟩ := c
      have hf := hfree k (by omega) (hsp.2.2.1 k c1 c2) c3
      rw [e]
      constructor
      · intro g; omega
      · intro g; rcases hf with f | f <;> omega
    · have e := s2 (fun g => c (hA.1 g))
      rw [e]
      exact ⟨⟨fun g => hin1.2 (.inl (hiff.1 g)), fun g => by rcases hin1.1 g with g1 | g1; exact hiff.2 g1; exact absurd g1 c⟩, fun a _ => Iff.rfl, .inr rfl⟩
  unfold runK
  simp only []
  rw [← hp1, ← hh1]
  by_cases hx : 0 < j.N p1 - 1
  · rw [if_pos hx]
    exact ⟨k1.1, k1.2.1, by rcases k1.2.2 with g | g; exact .inr (.inl g); exact .inr (.inr g)⟩
  · rw [if_neg hx]
    obtain ⟨p2, hp2⟩ : ∃ p2, p2 = skip (S.K t) 3 (S.L t) (p1 + 1) := ⟨_, rfl⟩
    have hs2 := skip_spec (S.K t) 3 (L := S.L t) (p := p1 + 1) (by omega)
    rw [← hp2] at hs2 ⊢
    have hin2 := inside_unlock (S := S) (t := t) (r := r) hsl.2 hs2.1 hs2.2.2.1
    have hU : (∃ k, p1 + 1 ≤ k ∧ k < p1 + 1 + (p2 - (p1 + 1)) ∧ (j.N k).toNat = r) ↔ ∃ k, p1 + 1 ≤ k ∧ k < p2 ∧ S.N t k = (r : Int) := by
      constructor
      · rintro ⟨k, a, b, c⟩
        exact ⟨k, a, by omega, (htoN k (by omega) (by rw [hs2.2.2.1 k a (by omega)]; decide)).1 c⟩
      · rintro ⟨k, a, b, c⟩
        exact ⟨k, a, by omega, (htoN k (by omega) (by rw [hs2.2.2.1 k a b]; decide)).2 c⟩
    obtain ⟨u1, u2⟩ := setTo_spec j.N (-1) h1 (p1 + 1) (p2 - (p1 + 1)) r
    show (setTo j.N (-1) h1 (p1 + 1) (p2 - (p1 + 1)) r = (t : Int) ↔ Inside S t p2 r) ∧ (∀ a : Nat, a ≠ t → (setTo j.N (-1) h1 (p1 + 1) (p2 - (p1 + 1)) r = (a : Int) ↔ h r = (a : Int))) ∧ (setTo j.N (-1) h1 (p1 + 1) (p2 - (p1 + 1)) r = -1 ∨ setTo j.N (-1) h1 (p1 + 1) (p2 - (p1 + 1)) r = (t : Int) ∨ setTo j.N (-1) h1 (p1 + 1) (p2 - (p1 + 1)) r = h r)
    by_cases c : ∃ k, p1 + 1 ≤ k ∧ k < p2 ∧ S.N t k = (r : Int)
    · have e := u1 (hU.2 c)
      rw [e]
      refine ⟨⟨fun g => by omega, fun g => absurd c (hin2.1 g).2⟩, fun a ha => ?_, .inl rfl⟩
      constructor
      · intro g; omega
      · intro g
        exfalso
        obtain ⟨k, c1, c2, c3⟩ := c
        obtain ⟨k0, hc0⟩ := unlock_closed hp (show k < S.L t by omega) (hs2.2.2.1 k c1 c2)
        rw [c3] at hc0
        have hk0 : k0 < p1 := by
          rcases Nat.lt_or_ge k0 p1 with g1 | g1
          · exact g1
          · exfalso
            have h2k := hc0.2.2.1
            have hlt := hc0.1
            by_cases e1 : k0 = p1
            · rw [e1] at h2k; omega
            · have := hs2.2.2.1 k0 (by omega) (by omega); omega
        have hi1 : Inside S t p1 r := ⟨k0, k, hc0, hk0, by omega⟩
        have g2 := k1.1.2 hi1
        have g3 := (k1.2.1 a ha).2 g
        omega
    · have e := u2 (fun g => c (hU.1 g))
      rw [e]
      exact ⟨⟨fun g => hin2.2 ⟨k1.1.1 g, c⟩, fun g => k1.1.2 (hin2.1 g).1⟩, k1.2.1, by rcases k1.2.2 with g | g; exact .inr (.inl g); exact .inr (.inr g)⟩

end Go.Proofs.YtdabcflpcklfiaaGreat.Cad

/- Plain mathematics: the invariant of the locks is kept. -/
namespace Go.Proofs.YtdabcflpcklfiaaGreat.Cad

theorem inside_zero {S : Sy} {t r : Nat} : ¬ Inside S t 0 r := fun ⟨k, e, _, hk, _⟩ => by omega
theorem inside_end {S : Sy} {t r : Nat} : ¬ Inside S t (S.L t) r := fun ⟨k, e, hc, _, he⟩ => by have := hc.2.1; omega

theorem lk_start (S : Sy) : LkInv S start := by
  refine ⟨fun r _ => .inl rfl, fun r t _ _ => ⟨fun h => by have : (-1 : Int) = (t : Int) := h; omega, fun ⟨j, l, h, _⟩ => by simp [start] at h⟩, fun t _ j hj => by simp [start] at hj, fun t j l _ h => by simp [start] at h, fun t j l _ h => by simp [start] at h, fun a b _ _ _ ⟨r, _, h⟩ => by have : (-1 : Int) = (a : Int) := h; omega⟩

theorem lk_later {S : Sy} {m : Mc} (h : LkInv S m) (x y : Int) (hx : m.now ≤ x) : LkInv S { m with now := x, idle := y } :=
  ⟨h.own, h.iff, h.num, fun t j l ht hq hp => by have := h.rel t j l ht hq hp; show j.rel ≤ x; omega, h.rest, h.pair⟩

theorem lk_tickAt {S : Sy} {m : Mc} (hs : SyOk S) (ho : Ok S m) (h : LkInv S m) {t : Nat} {j : Jb} {l : List Jb} (ht : t < S.n) (hq : m.q t = j :: l) (hrel : j.rel ≤ m.now) (hc : (chTo S m S.n).1 = (t : Int)) : LkInv S (tickAt S m t j l).1 := by
  have hj := (ho.job t ht j (by rw [hq]; simp)).1
  have hp := hs.prog t ht
  have hnumj := h.num t ht j (by rw [hq]; simp)
  have hrun : ∀ r, r < 8 → _ := fun r hr => run_hold (h := m.hold) (r := r) hp hj (fun k hk h1 => (hnumj k hk).1 h1)
    ⟨fun e => by
      obtain ⟨j', l', hq', hi⟩ := (h.iff r t hr ht).1 e
      rw [hq] at hq'
      cases hq'
      exact hi, fun hi => (h.iff r t hr ht).2 ⟨j, l, hq, hi⟩⟩
    (fun k hk h2 hn => lock_free_of hs h hc ht hk h2 hr hn)
  obtain ⟨k1, k2, k3, k4, k5, k6, k7⟩ := runK_ok (t := t) (h := m.hold) hj
  -- the job's numbers behind the tick
  have hnum' : ∀ k, k < S.L t → (S.K t k ≠ 1 → (runK (S.K t) (S.L t) t m.hold j).2.N k = S.N t k) ∧ (S.K t k = 1 → (runK (S.K t) (S.L t) t m.hold j).2.N k ≤ S.N t k) := fun k hk => by
    have hsl := skipLt hj
    have hN : (runK (S.K t) (S.L t) t m.hold j).2.N = upd j.N (skip (S.K t) 2 (S.L t) j.p) (j.N (skip (S.K t) 2 (S.L t) j.p) - 1) := by
      unfold runK
      simp only []
      split <;> rfl
    rw [hN]
    by_cases e : k = skip (S.K t) 2 (S.L t) j.p
    · rw [e, upd_same]
      exact ⟨fun h1 => absurd hsl.2 h1, fun h1 => by have := (hnumj _ hsl.1).2 hsl.2; omega⟩
    · rw [upd_other _ _ e]
      exact hnumj k hk
  have hover : ∀ a, a < S.n → a ≠ t → ∀ r, r < 8 → m.hold r = (a : Int) → S.C r < S.Z t := fun a ha hne => chosen_over hs h hc ha hne
  have hpair : ∀ a b, a < S.n → b < S.n → a ≠ b → (∃ r, r < 8 ∧ (runK (S.K t) (S.L t) t m.hold j).1 r = (a : Int)) → (∃ r, r < 8 ∧ (runK (S.K t) (S.L t) t m.hold j).1 r = (b : Int)) →
      (∀ r, r < 8 → (runK (S.K t) (S.L t) t m.hold j).1 r = (a : Int) → S.C r < S.Z b) ∨ (∀ r, r < 8 → (runK (S.K t) (S.L t) t m.hold j).1 r = (b : Int) → S.C r < S.Z a) := fun a b ha hb hab hxa hxb => by
    by_cases ea : a = t
    · subst ea
      exact .inr (fun r hr e => hover b hb (fun e => hab e.symm) r hr (((hrun r hr).2.1 b (fun e => hab e.symm)).1 e))
    · by_cases eb : b = t
      · subst eb
        exact .inl (fun r hr e => hover a ha ea r hr (((hrun r hr).2.1 a ea).1 e))
      · obtain ⟨ra, hra, eea⟩ := hxa
        obtain ⟨rb, hrb, eeb⟩ := hxb
        rcases h.pair a b ha hb hab ⟨ra, hra, ((hrun ra hra).2.1 a ea).1 eea⟩ ⟨rb, hrb, ((hrun rb hrb).2.1 b eb).1 eeb⟩ with g | g
        · exact .inl (fun r hr e => g r hr (((hrun r hr).2.1 a ea).1 e))
        · exact .inr (fun r hr e => g r hr (((hrun r hr).2.1 b eb).1 e))
  have hown : ∀ r, r < 8 → (runK (S.K t) (S.L t) t m.hold j).1 r = -1 ∨ ∃ a, a < S.n ∧ (runK (S.K t) (S.L t) t m.hold j).1 r = (a : Int) := fun r hr => by
    rcases (hrun r hr).2.2 with g | g | g
    · exact .inl g
    · exact .inr ⟨t, ht, g⟩
    · rw [g]; exact h.own r hr
  by_cases hpl : (runK (S.K t) (S.L t) t m.hold j).2.p < S.L t
  · have e : tickAt S m t j l = ({ m with now := m.now + 1, hold := (runK (S.K t) (S.L t) t m.hold j).1, q := upd m.q t ((runK (S.K t) (S.L t) t m.hold j).2 :: l) }, false) := by
      unfold tickAt
      exact if_pos hpl
    rw [e]
    refine ⟨hown, fun r a hr ha => ?_, fun a ha x hx => ?_, fun a x y ha hqa hxp => ?_, fun a x y ha hqa => ?_, hpair⟩
    · show (runK (S.K t) (S.L t) t m.hold j).1 r = (a : Int) ↔ ∃ x y, upd m.q t ((runK (S.K t) (S.L t) t m.hold j).2 :: l) a = x :: y ∧ Inside S a x.p r
      by_cases ea : a = t
      · subst ea
        rw [upd_same]
        rw [(hrun r hr).1]
        exact ⟨fun g => ⟨_, _, rfl, g⟩, fun ⟨x, y, e1, e2⟩ => by cases e1; exact e2⟩
      · rw [upd_other _ _ ea, (hrun r hr).2.1 a ea]
        exact h.iff r a hr ha
    · have hx' : x ∈ upd m.q t ((runK (S.K t) (S.L t) t m.hold j).2 :: l) a := hx
      by_cases ea : a = t
      · subst ea
        rw [upd_same] at hx'
        rcases List.mem_cons.1 hx' with rfl | hx2
        · exact hnum'
        · exact h.num a ha x (by rw [hq]; simp [hx2])
      · rw [upd_other _ _ ea] at hx'
        exact h.num a ha x hx'
    · have hqa' : upd m.q t ((runK (S.K t) (S.L t) t m.hold j).2 :: l) a = x :: y := hqa
      show x.rel ≤ m.now + 1
      by_cases ea : a = t
      · subst ea
        rw [upd_same] at hqa'
        cases hqa'
        rw [k5]; omega
      · rw [upd_other _ _ ea] at hqa'
        have := h.rel a x y ha hqa' hxp
        omega
    · have hqa' : upd m.q t ((runK (S.K t) (S.L t) t m.hold j).2 :: l) a = x :: y := hqa
      by_cases ea : a = t
      · subst ea
        rw [upd_same] at hqa'
        cases hqa'
        exact h.rest a j l ha hq
      · rw [upd_other _ _ ea] at hqa'
        exact h.rest a x y ha hqa'
  · have hpe : (runK (S.K t) (S.L t) t m.hold j).2.p = S.L t := by omega
    have e : tickAt S m t j l = ({ m with now := m.now + 1, hold := (runK (S.K t) (S.L t) t m.hold j).1, q := upd m.q t l, done := upd m.done t (m.done t + 1), kept := keep m.kept ⟨t, j.arr, j.rel, m.now + 1, (runK (S.K t) (S.L t) t m.hold j).2.left, j.ord⟩ }, true) := by
      unfold tickAt
      exact if_neg hpl
    rw [e]
    have hl0 := h.rest t j l ht hq
    refine ⟨hown, fun r a hr ha => ?_, fun a ha x hx => ?_, fun a x y ha hqa hxp => ?_, fun a x y ha hqa => ?_, hpair⟩
    · show (runK (S.K t) (S.L t) t m.hold j).1 r = (a : Int) ↔ ∃ x y, upd m.q t l a = x :: y ∧ Inside S a x.p r
      by_cases ea : a = t
      · subst ea
        rw [upd_same, (hrun r hr).1, hpe]
        constructor
        · intro g; exact absurd g inside_end
        · rintro ⟨x, y, e1, e2⟩
          rw [hl0 x (by rw [e1]; simp)] at e2
          exact absurd e2 inside_zero
      · rw [upd_other _ _ ea, (hrun r hr).2.1 a ea]
        exact h.iff r a hr ha
    · have hx' : x ∈ upd m.q t l a := hx
      by_cases ea : a = t
      · subst ea
        rw [upd_same] at hx'
        exact h.num a ha x (by rw [hq]; simp [hx'])
      · rw [upd_other _ _ ea] at hx'
        exact h.num a ha x hx'
    · have hqa' : upd m.q t l a = x :: y := hqa
      show x.rel ≤ m.now + 1
      by_cases ea : a = t
      · subst ea
        rw [upd_same] at hqa'
        have := hl0 x (by rw [hqa']; simp)
        omega
      · rw [upd_other _ _ ea] at hqa'
        have := h.rel a x y ha hqa' hxp
        omega
    · have hqa' : upd m.q t l a = x :: y := hqa
      by_cases ea : a = t
      · subst ea
        rw [upd_same] at hqa'
        exact fun z hz => hl0 z (by rw [hqa']; simp [hz])
      · rw [upd_other _ _ ea] at hqa'
        exact h.rest a x y ha hqa'

theorem lk_tick {S : Sy} {m : Mc} (hs : SyOk S) (ho : Ok S m) (h : LkInv S m) : LkInv S (tick S m).1 := by
  rcases tick_cases S m with ⟨_, e⟩ | ⟨t, j, l, ht, hq, hr, hc, e⟩
  · rw [e]; exact lk_later h _ _ (by omega)
  · rw [e]; exact lk_tickAt hs ho h ht hq hr hc

theorem lk_added {S : Sy} {m : Mc} (h : LkInv S m) {t : Nat} (ht : t < S.n) {jit : Int} {D : Nat → Int} {d : Nat} (hf : Fits (S.K t) (S.N t) (S.L t) D d) : LkInv S (added S m t jit D) := by
  have hnew : (jobOf S m t jit D).p = 0 := rfl
  refine ⟨h.own, fun r a hr ha => ?_, fun a ha x hx => ?_, fun a x y ha hqa hxp => ?_, fun a x y ha hqa => ?_, h.pair⟩
  · show m.hold r = (a : Int) ↔ ∃ x y, upd m.q t (m.q t ++ [jobOf S m t jit D]) a = x :: y ∧ Inside S a x.p r
    by_cases ea : a = t
    · subst ea
      rw [upd_same, h.iff r a hr ha]
      cases hq : m.q a with
      | nil =>
        constructor
        · rintro ⟨x, y, e1, _⟩; cases e1
        · rintro ⟨x, y, e1, e2⟩
          simp at e1
          rw [← e1.1, hnew] at e2
          exact absurd e2 inside_zero
      | cons j l =>
        constructor
        · rintro ⟨x, y, e1, e2⟩
          cases e1
          exact ⟨_, _, rfl, e2⟩
        · rintro ⟨x, y, e1, e2⟩
          simp at e1
          rw [← e1.1] at e2
          exact ⟨_, _, rfl, e2⟩
    · rw [upd_other _ _ ea]
      exact h.iff r a hr ha
  · have hx' : x ∈ upd m.q t (m.q t ++ [jobOf S m t jit D]) a := hx
    by_cases ea : a = t
    · subst ea
      rw [upd_same] at hx'
      rcases List.mem_append.1 hx' with g | g
      · exact h.num a ha x g
      · have : x = jobOf S m a jit D := by simpa using g
        subst this
        intro k hk
        show (_ → numOf _ _ _ k = _) ∧ (_ → numOf _ _ _ k ≤ _)
        unfold numOf
        exact ⟨fun h1 => by rw [if_neg h1], fun h1 => by rw [if_pos h1]; exact (hf.1 k hk h1).2.2⟩
    · rw [upd_other _ _ ea] at hx'
      exact h.num a ha x hx'
  · have hqa' : upd m.q t (m.q t ++ [jobOf S m t jit D]) a = x :: y := hqa
    show x.rel ≤ m.now
    by_cases ea : a = t
    · subst ea
      rw [upd_same] at hqa'
      cases hq : m.q a with
      | nil =>
        rw [hq] at hqa'
        simp at hqa'
        rw [← hqa'.1, hnew] at hxp
        omega
      | cons j l =>
        rw [hq] at hqa'
        simp at hqa'
        rw [← hqa'.1] at hxp ⊢
        exact h.rel a j l ha hq hxp
    · rw [upd_other _ _ ea] at hqa'
      exact h.rel a x y ha hqa' hxp
  · have hqa' : upd m.q t (m.q t ++ [jobOf S m t jit D]) a = x :: y := hqa
    by_cases ea : a = t
    · subst ea
      rw [upd_same] at hqa'
      cases hq : m.q a with
      | nil =>
        rw [hq] at hqa'
        simp at hqa'
        rw [hqa'.2]
        intro z hz; cases hz
      | cons j l =>
        rw [hq] at hqa'
        simp at hqa'
        rw [← hqa'.2]
        intro z hz
        rcases List.mem_append.1 hz with g | g
        · exact h.rest a j l ha hq z g
        · have : z = jobOf S m a jit D := by simpa using g
          rw [this]
          rfl
    · rw [upd_other _ _ ea] at hqa'
      exact h.rest a x y ha hqa'

end Go.Proofs.YtdabcflpcklfiaaGreat.Cad

/- Plain mathematics: what a level's busy time is made of. -/
namespace Go.Proofs.YtdabcflpcklfiaaGreat.Cad

/-! ### sections within sections -/

/-! ### what is left -/

/-! ### sums -/

end Go.Proofs.YtdabcflpcklfiaaGreat.Cad

/- Plain mathematics: the busy time of a level: no job is older than its bound. -/
namespace Go.Proofs.YtdabcflpcklfiaaGreat.Cad

/-! ### a job's tick -/

end Go.Proofs.YtdabcflpcklfiaaGreat.Cad

/- Plain mathematics: a level behind a tick: no busy time is as long as its bound. -/
namespace Go.Proofs.YtdabcflpcklfiaaGreat.Cad

end Go.Proofs.YtdabcflpcklfiaaGreat.Cad

/- Plain mathematics: what holds of a level is kept by ticks and arrivals. -/
namespace Go.Proofs.YtdabcflpcklfiaaGreat.Cad

end Go.Proofs.YtdabcflpcklfiaaGreat.Cad

/- Plain mathematics: with bounds for all tasks no job is ever older than its bound (P11), whatever comes. -/
namespace Go.Proofs.YtdabcflpcklfiaaGreat.Cad

end Go.Proofs.YtdabcflpcklfiaaGreat.Cad

/- The bounds that Analyze finds are bounds of the machine of numbers. -/
namespace Go.Proofs.YtdabcflpcklfiaaGreat
open Go.RowKit Cad

theorem ceilK_spec {K N : Nat → Int} {z : Int} {c : Nat → Int} : ∀ k, (∀ r, c r ≤ ceilK K N z c k r) ∧ (∀ q, q < k → K q = 2 → z ≤ ceilK K N z c k (N q).toNat) ∧ (∀ r, ceilK K N z c k r = c r ∨ (ceilK K N z c k r = z ∧ ∃ q, q < k ∧ K q = 2 ∧ (N q).toNat = r))
  | 0 => ⟨fun _ => Int.le_refl _, fun q hq => by omega, fun _ => .inl rfl⟩
  | k + 1 => by
    obtain ⟨i1, i2, i3⟩ := ceilK_spec (K := K) (N := N) (z := z) (c := c) k
    unfold ceilK
    by_cases h : K k = 2
    · rw [if_pos h]
      refine ⟨fun r => ?_, fun q hq h2 => ?_, fun r => ?_⟩
      · unfold upd
        split
        · rename_i e
          have := i1 r
          rw [e] at this
          rw [e]
          omega
        · exact i1 r
      · unfold upd
        split
        · omega
        · rename_i e
          by_cases g : q = k
          · subst g; exact absurd rfl e
          · exact i2 q (by omega) h2
      · unfold upd
        split
        · rename_i e
          rcases Int.le_total (ceilK K N z c k (N k).toNat) z with g | g
          · exact .inr ⟨by omega, k, by omega, h, e.symm⟩
          · rcases i3 r with g2 | ⟨g2, q, g3, g4, g5⟩
            · left; rw [← g2, e]; omega
            · right; exact ⟨by rw [e] at g2; omega, q, by omega, g4, g5⟩
        · rcases i3 r with g2 | ⟨g2, q, g3, g4, g5⟩
          · exact .inl g2
          · exact .inr ⟨g2, q, by omega, g4, g5⟩
    · rw [if_neg h]
      refine ⟨i1, fun q hq h2 => ?_, fun r => ?_⟩
      · by_cases g : q = k
        · subst g; exact absurd h2 h
        · exact i2 q (by omega) h2
      · rcases i3 r with g2 | ⟨g2, q, g3, g4, g5⟩
        · exact .inl g2
        · exact .inr ⟨g2, q, by omega, g4, g5⟩

theorem ceilI_spec {K N : Nat → Nat → Int} {L : Nat → Nat} {Z : Nat → Int} : ∀ n, (∀ t q, t < n → q < L t → K t q = 2 → Z t ≤ ceilI K N L Z n (N t q).toNat) ∧ (∀ r, ceilI K N L Z n r = 0 ∨ ∃ t q, t < n ∧ q < L t ∧ K t q = 2 ∧ (N t q).toNat = r ∧ ceilI K N L Z n r = Z t)
  | 0 => ⟨fun t q ht => by omega, fun _ => .inl rfl⟩
  | n + 1 => by
    obtain ⟨i1, i2⟩ := ceilI_spec (K := K) (N := N) (L := L) (Z := Z) n
    obtain ⟨k1, k2, k3⟩ := ceilK_spec (K := K n) (N := N n) (z := Z n) (c := ceilI K N L Z n) (L n)
    refine ⟨fun t q ht hq h2 => ?_, fun r => ?_⟩
    · by_cases e : t = n
      · subst e; exact k2 q hq h2
      · have h1 := i1 t q (by omega) hq h2
        have h3 := k1 (N t q).toNat
        show Z t ≤ ceilK (K n) (N n) (Z n) (ceilI K N L Z n) (L n) (N t q).toNat
        omega
    · rcases k3 r with g | ⟨g, q, g1, g2, g3⟩
      · rcases i2 r with e | ⟨t, q, e1, e2, e3, e4, e5⟩
        · exact .inl (g.trans e)
        · exact .inr ⟨t, q, by omega, e2, e3, e4, g.trans e5⟩
      · exact .inr ⟨n, q, by omega, g1, g2, g3, g⟩

theorem syok_of {T : TD} {Z : Nat → Int} {n : Nat} (hG : Good T n) (hp : PrioB Z n) : SyOk (sysOf T Z n) :=
  ⟨hG.prog, hp.2, fun t k ht hk h2 => (ceilI_spec n).1 t k ht hk h2⟩

end Go.Proofs.YtdabcflpcklfiaaGreat

/- Whether all bounds are above 0; whether anybody locks. -/
namespace Go.Proofs.YtdabcflpcklfiaaGreat
open Go.RowKit Cad

end Go.Proofs.YtdabcflpcklfiaaGreat
