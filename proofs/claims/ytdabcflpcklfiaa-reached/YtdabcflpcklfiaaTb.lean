import Derived.Test.YtdabcflpcklfiaaTa
/- Plain mathematics: who holds what, behind a tick and behind an arrival. -/
namespace Go.Proofs.Ytdabcflpcklfiaa.Cad

theorem st_some {K N : Nat → Int} {L e : Nat} (h : progB K N L = true) (he : e ≤ L) : ∃ s, stTo K N e = some s := by
  simp only [progB, decide_eq_true_eq] at h
  cases hs : stTo K N e with
  | some s => exact ⟨s, rfl⟩
  | none =>
    have := stTo_none K N e L he hs
    rw [h.2.2.2] at this
    cases this

/-- An Unlock ends a section. -/
theorem unlock_closed {K N : Nat → Int} {L e : Nat} (h : progB K N L = true) (he : e < L) (h3 : K e = 3) : ∃ k, Closed K N (N e) k e L := by
  obtain ⟨s, hs⟩ := st_some h (Nat.le_of_lt he)
  obtain ⟨s', hs'⟩ := st_some h (show e + 1 ≤ L from he)
  have hI := prog_inv K N e s hs
  simp only [stTo, hs, Option.bind_some] at hs'
  have hl : s.getLast? = some (N e) := by
    unfold stepF at hs'
    rw [if_neg (by omega), if_neg (by omega), if_pos h3] at hs'
    split at hs'
    · rename_i c; exact c.2
    · cases hs'
  have hmem : N e ∈ s := List.mem_of_getLast? hl
  obtain ⟨k, h1, h2, h4, _, h5, _⟩ := hI.held _ hmem
  exact ⟨k, h1, he, h2, h4, h3, rfl, fun t a b => h5 t a b⟩

theorem lock_closed {K N : Nat → Int} {L k : Nat} (h : progB K N L = true) (hk : k < L) (h2 : K k = 2) : ∃ e, Closed K N (N k) k e L := by
  obtain ⟨_, _, _, I⟩ := progB_inv h
  rcases I.locks (N k) k hk h2 rfl with ⟨e, hc, _⟩ | ⟨hr, _⟩
  · exact ⟨e, hc⟩
  · cases hr

theorem inside_lock {S : Sy} {t p p1 r : Nat} (hp : progB (S.K t) (S.N t) (S.L t) = true) (h1 : p ≤ p1) (h2 : p1 ≤ S.L t) (hl : ∀ k, p ≤ k → k < p1 → S.K t k = 2) :
    Inside S t p1 r ↔ (Inside S t p r ∨ ∃ k, p ≤ k ∧ k < p1 ∧ S.N t k = (r : Int)) := by
  constructor
  · rintro ⟨k, e, hc, hk, he⟩
    rcases Nat.lt_or_ge k p with g | g
    · exact .inl ⟨k, e, hc, g, by omega⟩
    · exact .inr ⟨k, g, hk, hc.2.2.2.1⟩
  · have hout : ∀ e, S.K t e = 3 → p ≤ e → p1 ≤ e := fun e h3 hpe => by
      rcases Nat.lt_or_ge e p1 with g | g
      · have := hl e hpe g; omega
      · exact g
    rintro (⟨k, e, hc, hk, he⟩ | ⟨k, hk1, hk2, hn⟩)
    · exact ⟨k, e, hc, by omega, hout e hc.2.2.2.2.1 he⟩
    · obtain ⟨e, hc⟩ := lock_closed hp (show k < S.L t by omega) (hl k hk1 hk2)
      rw [hn] at hc
      exact ⟨k, e, hc, hk2, hout e hc.2.2.2.2.1 (by have := hc.1; omega)⟩

theorem inside_unlock {S : Sy} {t p1 p2 r : Nat} (h1 : S.K t p1 = 1) (h2 : p1 + 1 ≤ p2) (hl : ∀ k, p1 + 1 ≤ k → k < p2 → S.K t k = 3) :
    Inside S t p2 r ↔ (Inside S t p1 r ∧ ¬ ∃ k, p1 + 1 ≤ k ∧ k < p2 ∧ S.N t k = (r : Int)) := by
  constructor
  · rintro ⟨k, e, hc, hk, he⟩
    have hkp : k < p1 := by
      rcases Nat.lt_or_ge k p1 with g | g
      · exact g
      · exfalso
        have h2k := hc.2.2.1
        by_cases e1 : k = p1
        · rw [e1] at h2k; omega
        · have := hl k (by omega) hk; omega
    refine ⟨⟨k, e, hc, hkp, by omega⟩, fun ⟨q, q1, q2, q3⟩ => ?_⟩
    have := hl q q1 q2
    by_cases e1 : q = e
    · omega
    · exact hc.2.2.2.2.2.2 q (by omega) (by omega) ⟨this, q3⟩
  · rintro ⟨⟨k, e, hc, hk, he⟩, hn⟩
    refine ⟨k, e, hc, by omega, ?_⟩
    rcases Nat.lt_or_ge e p2 with g | g
    · exfalso
      have h3 := hc.2.2.2.2.1
      by_cases e1 : e = p1
      · rw [e1] at h3; omega
      · exact hn ⟨e, by omega, g, hc.2.2.2.2.2.1⟩
    · exact g

/-- Who holds what behind a job's tick. -/
theorem run_hold {S : Sy} {t : Nat} {h : Nat → Int} {j : Jb} (hp : progB (S.K t) (S.N t) (S.L t) = true) (hj : JbOk (S.K t) (S.L t) j) (hnum : ∀ k, k < S.L t → S.K t k ≠ 1 → j.N k = S.N t k)
    {r : Nat} (hiff : h r = (t : Int) ↔ Inside S t j.p r) (hfree : ∀ k, k < S.L t → S.K t k = 2 → S.N t k = (r : Int) → h r = -1 ∨ h r = (t : Int)) :
    ((runK (S.K t) (S.L t) t h j).1 r = (t : Int) ↔ Inside S t (runK (S.K t) (S.L t) t h j).2.p r) ∧ (∀ a : Nat, a ≠ t → ((runK (S.K t) (S.L t) t h j).1 r = (a : Int) ↔ h r = (a : Int))) ∧
    ((runK (S.K t) (S.L t) t h j).1 r = -1 ∨ (runK (S.K t) (S.L t) t h j).1 r = (t : Int) ∨ (runK (S.K t) (S.L t) t h j).1 r = h r) := by
  obtain ⟨p1, hp1⟩ : ∃ p1, p1 = skip (S.K t) 2 (S.L t) j.p := ⟨_, rfl⟩
  have hsp := skip_spec (S.K t) 2 (L := S.L t) (p := j.p) (by have := hj.lt; omega)
  have hsl := skipLt hj
  rw [← hp1] at hsp hsl
  have hin1 := inside_lock (r := r) hp hsp.1 hsp.2.1 hsp.2.2.1
  have htoN : ∀ k, k < S.L t → S.K t k ≠ 1 → ((j.N k).toNat = r ↔ S.N t k = (r : Int)) := fun k hk h1 => by
    have := (progB_inv hp).2.2.2.steps k hk
    rw [hnum k hk h1]
    rcases this with g | g | g
    · exact absurd g.1 h1
    · omega
    · omega
  have hA : (∃ k, j.p ≤ k ∧ k < j.p + (p1 - j.p) ∧ (j.N k).toNat = r) ↔ ∃ k, j.p ≤ k ∧ k < p1 ∧ S.N t k = (r : Int) := by
    constructor
    · rintro ⟨k, a, b, c⟩
      exact ⟨k, a, by omega, (htoN k (by omega) (by rw [hsp.2.2.1 k a (by omega)]; decide)).1 c⟩
    · rintro ⟨k, a, b, c⟩
      exact ⟨k, a, by omega, (htoN k (by omega) (by rw [hsp.2.2.1 k a b]; decide)).2 c⟩
  obtain ⟨s1, s2⟩ := setTo_spec j.N (t : Int) h j.p (p1 - j.p) r
  obtain ⟨h1, hh1⟩ : ∃ h1, h1 = setTo j.N (t : Int) h j.p (p1 - j.p) := ⟨_, rfl⟩
  rw [← hh1] at s1 s2
  -- behind the Locks
  have k1 : (h1 r = (t : Int) ↔ Inside S t p1 r) ∧ (∀ a : Nat, a ≠ t → (h1 r = (a : Int) ↔ h r = (a : Int))) ∧ (h1 r = (t : Int) ∨ h1 r = h r) := by
    by_cases c : ∃ k, j.p ≤ k ∧ k < p1 ∧ S.N t k = (r : Int)
    · have e := s1 (hA.2 c)
      refine ⟨⟨fun _ => hin1.2 (.inr c), fun _ => e⟩, fun a ha => ?_, .inl e⟩
      obtain ⟨k, c1, c2, c3⟩ := c
      have hf := hfree k (by omega) (hsp.2.2.1 k c1 c2) c3
      rw [e]
      constructor
      · intro g; omega
      · intro g; rcases hf with f | f <;> omega
    · have e := s2 (fun g => c (hA.1 g))
      rw [e]
      exact ⟨⟨fun g => hin1.2 (.inl (hiff.1 g)), fun g => by rcases hin1.1 g with g1 | g1; exact hiff.2 g1; exact absurd g1 c⟩, fun a _ => Iff.rfl, .inr rfl⟩
  unfold runK
  simp only []
  rw [← hp1, ← hh1]
  by_cases hx : 0 < j.N p1 - 1
  · rw [if_pos hx]
    exact ⟨k1.1, k1.2.1, by rcases k1.2.2 with g | g; exact .inr (.inl g); exact .inr (.inr g)⟩
  · rw [if_neg hx]
    obtain ⟨p2, hp2⟩ : ∃ p2, p2 = skip (S.K t) 3 (S.L t) (p1 + 1) := ⟨_, rfl⟩
    have hs2 := skip_spec (S.K t) 3 (L := S.L t) (p := p1 + 1) (by omega)
    rw [← hp2] at hs2 ⊢
    have hin2 := inside_unlock (S := S) (t := t) (r := r) hsl.2 hs2.1 hs2.2.2.1
    have hU : (∃ k, p1 + 1 ≤ k ∧ k < p1 + 1 + (p2 - (p1 + 1)) ∧ (j.N k).toNat = r) ↔ ∃ k, p1 + 1 ≤ k ∧ k < p2 ∧ S.N t k = (r : Int) := by
      constructor
      · rintro ⟨k, a, b, c⟩
        exact ⟨k, a, by omega, (htoN k (by omega) (by rw [hs2.2.2.1 k a (by omega)]; decide)).1 c⟩
      · rintro ⟨k, a, b, c⟩
        exact ⟨k, a, by omega, (htoN k (by omega) (by rw [hs2.2.2.1 k a b]; decide)).2 c⟩
    obtain ⟨u1, u2⟩ := setTo_spec j.N (-1) h1 (p1 + 1) (p2 - (p1 + 1)) r
    show (setTo j.N (-1) h1 (p1 + 1) (p2 - (p1 + 1)) r = (t : Int) ↔ Inside S t p2 r) ∧ (∀ a : Nat, a ≠ t → (setTo j.N (-1) h1 (p1 + 1) (p2 - (p1 + 1)) r = (a : Int) ↔ h r = (a : Int))) ∧ (setTo j.N (-1) h1 (p1 + 1) (p2 - (p1 + 1)) r = -1 ∨ setTo j.N (-1) h1 (p1 + 1) (p2 - (p1 + 1)) r = (t : Int) ∨ setTo j.N (-1) h1 (p1 + 1) (p2 - (p1 + 1)) r = h r)
    by_cases c : ∃ k, p1 + 1 ≤ k ∧ k < p2 ∧ S.N t k = (r : Int)
    · have e := u1 (hU.2 c)
      rw [e]
      refine ⟨⟨fun g => by omega, fun g => absurd c (hin2.1 g).2⟩, fun a ha => ?_, .inl rfl⟩
      constructor
      · intro g; omega
      · intro g
        exfalso
        obtain ⟨k, c1, c2, c3⟩ := c
        obtain ⟨k0, hc0⟩ := unlock_closed hp (show k < S.L t by omega) (hs2.2.2.1 k c1 c2)
        rw [c3] at hc0
        have hk0 : k0 < p1 := by
          rcases Nat.lt_or_ge k0 p1 with g1 | g1
          · exact g1
          · exfalso
            have h2k := hc0.2.2.1
            have hlt := hc0.1
            by_cases e1 : k0 = p1
            · rw [e1] at h2k; omega
            · have := hs2.2.2.1 k0 (by omega) (by omega); omega
        have hi1 : Inside S t p1 r := ⟨k0, k, hc0, hk0, by omega⟩
        have g2 := k1.1.2 hi1
        have g3 := (k1.2.1 a ha).2 g
        omega
    · have e := u2 (fun g => c (hU.1 g))
      rw [e]
      exact ⟨⟨fun g => hin2.2 ⟨k1.1.1 g, c⟩, fun g => k1.1.2 (hin2.1 g).1⟩, k1.2.1, by rcases k1.2.2 with g | g; exact .inr (.inl g); exact .inr (.inr g)⟩

end Go.Proofs.Ytdabcflpcklfiaa.Cad
