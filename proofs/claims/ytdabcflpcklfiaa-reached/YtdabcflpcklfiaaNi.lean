import Derived.Test.YtdabcflpcklfiaaNh
/- The run that Reached makes, in numbers. -/
namespace Go.Proofs.Ytdabcflpcklfiaa
open Go.RowKit Cad

def topTo (f : Nat → Int) : Nat → Int
  | 0 => 0
  | k + 1 => if topTo f k < f k then f k else topTo f k

theorem topTo_spec (f : Nat → Int) (b : Int) (hb : 0 ≤ b) : ∀ k, (∀ j, j < k → f j ≤ b) → 0 ≤ topTo f k ∧ topTo f k ≤ b ∧ ∀ j, j < k → f j ≤ topTo f k
  | 0, _ => ⟨Int.le_refl _, hb, fun j hj => by omega⟩
  | k + 1, h => by
    obtain ⟨h1, h2, h3⟩ := topTo_spec f b hb k (fun j hj => h j (by omega))
    have hk := h k (by omega)
    unfold topTo
    split
    · refine ⟨by omega, hk, fun j hj => ?_⟩
      by_cases e : j = k
      · subst e; omega
      · have := h3 j (by omega); omega
    · refine ⟨h1, h2, fun j hj => ?_⟩
      by_cases e : j = k
      · subst e; omega
      · exact h3 j (by omega)

/-- How many have arrived when at now the first i tasks have had their turn. -/
def Amid (S : Sy) (z now : Int) (i j : Nat) : Int := if j < i then cnt (z - S.J j) (S.P j) (now + 1) else cnt (z - S.J j) (S.P j) now

theorem amid_end {S : Sy} {z now : Int} {A : Nat → Int} (h : ∀ j, A j = Amid S z now S.n j) : ∀ j, j < S.n → A j = Amid S z (now + 1) 0 j := fun j hj => by
  rw [h j]
  unfold Amid
  rw [if_pos hj, if_neg (by omega)]

/-- The law's run. -/
structure Rch (S : Sy) (W B : Nat → Int) (z now : Int) (i : Nat) (m : Mc) (F : Nat → Int) : Prop where
  rn : ∃ A, Rn S W B z m A ∧ ∀ j, j < S.n → A j = Amid S z now i j
  time : m.now = now
  arrd : m.arrd ≤ 8 * now + (i : Int)
  first : ∀ j, j < S.n → F j = if m.done j = 0 then 0 else z + W j

theorem rn_other {S : Sy} {W B : Nat → Int} {z : Int} {m : Mc} {A A' : Nat → Int} (h : Rn S W B z m A) (he : ∀ j, j < S.n → A' j = A j) : Rn S W B z m A' :=
  ⟨h.t, h.ok, fun j hj => by rw [he j hj]; exact h.all j hj, fun j hj => by rw [he j hj]; exact h.job j hj, fun j hj => by rw [he j hj]; exact h.lastA j hj, h.work, h.idl⟩

theorem Rch.rn' {S : Sy} {W B : Nat → Int} {z now : Int} {i : Nat} {m : Mc} {F : Nat → Int} (h : Rch S W B z now i m F) : Rn S W B z m (Amid S z now i) := by
  obtain ⟨A, h1, h2⟩ := h.rn
  exact rn_other h1 (fun j hj => (h2 j hj).symm)

theorem rch_arrive {S : Sy} {W B : Nat → Int} {z now : Int} {i : Nat} {m : Mc} {F : Nat → Int} (hb : Bd S W B) (h : Rch S W B z now i m F) (hi : i < S.n) (hn : 0 ≤ now ∧ now ≤ 1000000) {jit : Int} {D : Nat → Int} {d : Nat} (hf : Full (S.K i) (S.N i) (S.L i) D d)
    (hc : (now = z - S.J i ∧ jit = S.J i) ∨ (z - S.J i < now ∧ (now - (z - S.J i)) % S.P i = 0 ∧ jit = 0)) :
    (arrive S m (i : Int) jit D d).2 = 0 ∧ Rch S W B z now (i + 1) (arrive S m (i : Int) jit D d).1 F := by
  have hp := hb.per i hi
  have hai : Amid S z now i i = cnt (z - S.J i) (S.P i) now := by unfold Amid; rw [if_neg (Nat.lt_irrefl _)]
  have hr := h.rn'
  have hnow := h.time
  have key : cnt (z - S.J i) (S.P i) (now + 1) = cnt (z - S.J i) (S.P i) now + 1 ∧ ((Amid S z now i i = 0 ∧ m.now = z - S.J i ∧ jit = S.J i) ∨ (1 ≤ Amid S z now i i ∧ m.now = z - S.J i + Amid S z now i i * S.P i ∧ jit = 0)) := by
    rw [hai]
    rcases hc with ⟨c1, c2⟩ | ⟨c1, c2, c3⟩
    · obtain ⟨e1, e2⟩ := cnt_first (P := S.P i) hp.1 c1
      exact ⟨by rw [e2, e1]; rfl, .inl ⟨e1, by omega, c2⟩⟩
    · obtain ⟨e1, e2, e3⟩ := cnt_next (f := z - S.J i) (P := S.P i) hp.1 c1 c2
      exact ⟨e3, .inr ⟨e2, by omega, c3⟩⟩
  obtain ⟨href, hadd⟩ := rn_added hb hr hi hf key.2
  have ho := ok_added hr.ok (by have := h.arrd; have := hr.ok.eight; omega) hi href
  have e : arrive S m (i : Int) jit D d = (added S m i jit D, 0) := by
    unfold arrive
    rw [if_neg (by omega)]
    simp only [Int.toNat_natCast]
    rw [if_neg (by simp [href])]
  rw [e]
  refine ⟨rfl, ⟨⟨_, hadd ho, fun j hj => ?_⟩, hnow, ?_, h.first⟩⟩
  · by_cases ej : j = i
    · subst ej
      rw [upd_same, hai]
      unfold Amid
      rw [if_pos (by omega), key.1]
    · rw [upd_other _ _ ej]
      unfold Amid
      by_cases c : j < i
      · rw [if_pos c, if_pos (by omega)]
      · rw [if_neg c, if_neg (by omega)]
  · have := h.arrd
    show m.arrd + 1 ≤ 8 * now + ((i + 1 : Nat) : Int)
    omega

theorem rch_skip {S : Sy} {W B : Nat → Int} {z now : Int} {i : Nat} {m : Mc} {F : Nat → Int} (hb : Bd S W B) (h : Rch S W B z now i m F) (hi : i < S.n) (h1 : now ≠ z - S.J i) (h2 : ¬ (z - S.J i < now ∧ (now - (z - S.J i)) % S.P i = 0)) : Rch S W B z now (i + 1) m F := by
  have hp := hb.per i hi
  refine ⟨⟨_, h.rn', fun j hj => ?_⟩, h.time, by have := h.arrd; omega, h.first⟩
  unfold Amid
  by_cases ej : j = i
  · subst ej
    rw [if_neg (Nat.lt_irrefl _), if_pos (by omega), cnt_same hp.1 h1 h2]
  · by_cases c : j < i
    · rw [if_pos c, if_pos (by omega)]
    · rw [if_neg c, if_neg (by omega)]

/-- A tick of the run: what the law's list says behind it. -/
theorem rch_tick {S : Sy} {W B : Nat → Int} {z now : Int} {m : Mc} {F : Nat → Int} (hs : SyOk S) (hb : Bd S W B) (h : Rch S W B z now S.n m F) (hn : 0 ≤ now ∧ now ≤ 1000000) (hz : 0 ≤ z) (hB : ∀ t, t < S.n → B t = 0)
    (hleast : ∀ t, t < S.n → ∀ u, 1 ≤ u → u < W t → dmS S t + B t + inter S.P S.J (dmS S) (fun j => decide (S.Z t < S.Z j)) u S.n ≠ u) :
    ((tick S m).2.2 = false → Rch S W B z (now + 1) 0 (tick S m).1 F) ∧
    ((tick S m).2.2 = true → ∃ t, t < S.n ∧ (tick S m).2.1 = (t : Int) ∧ (F t ≠ 0 → Rch S W B z (now + 1) 0 (tick S m).1 F) ∧ (F t = 0 → Rch S W B z (now + 1) 0 (tick S m).1 (upd F t (now + 1)))) := by
  have hr := h.rn'
  have hnow := h.time
  obtain ⟨hr', hsame, hnow', hmore⟩ := rn_tick hs hb (by omega) hr
  have harr : (tick S m).1.arrd = m.arrd := by
    rcases tick_cases S m with ⟨_, e⟩ | ⟨t, j, r, _, _, _, _, e⟩
    · rw [e]
    · rw [e]; unfold tickAt; simp only []; split <;> rfl
  have hn8 := hr.ok.eight
  have base : ∀ F', (∀ j, j < S.n → F' j = if (tick S m).1.done j = 0 then 0 else z + W j) → Rch S W B z (now + 1) 0 (tick S m).1 F' := fun F' hF => by
    refine ⟨⟨_, hr', amid_end (fun j => rfl)⟩, by omega, ?_, hF⟩
    have := h.arrd
    rw [harr]
    omega
  refine ⟨fun hd => base F (fun j hj => by rw [hsame j hj (.inr hd)]; exact h.first j hj), fun hd => ?_⟩
  obtain ⟨t, ht, e1, e2⟩ := hmore hd
  have hoth : ∀ j, j < S.n → j ≠ t → (tick S m).1.done j = m.done j := fun j hj hne => hsame j hj (.inl (by rw [e1]; omega))
  have hft := h.first t ht
  have hwp := hb.pos t ht
  refine ⟨t, ht, e1, fun h0 => base F (fun j hj => ?_), fun h0 => base _ (fun j hj => ?_)⟩
  · by_cases ej : j = t
    · subst ej
      rw [e2, if_neg (by omega), hft, if_neg (fun g => h0 (by rw [hft, if_pos g]))]
    · rw [hoth j hj ej]; exact h.first j hj
  · by_cases ej : j = t
    · subst ej
      have hd0 : m.done j = 0 := by
        by_cases c : m.done j = 0
        · exact c
        · rw [hft, if_neg c] at h0; omega
      rw [upd_same, e2, if_neg (by omega)]
      have := first_done hs hb (by omega) hr (fun a ha => by unfold Amid; rw [if_pos ha, hnow]) hj e1 hd hd0 (hB j hj) (hleast j hj)
      omega
    · rw [upd_other _ _ ej, hoth j hj ej]; exact h.first j hj

theorem rch_start {S : Sy} {W B : Nat → Int} {z : Int} (hs : SyOk S) (hb : Bd S W B) (ho : Ok S Cad.start) (hz : ∀ j, j < S.n → S.J j ≤ z) : Rch S W B z 0 0 Cad.start (fun _ => 0) := by
  refine ⟨⟨_, rn_start hs hb ho, fun j hj => ?_⟩, rfl, by show (0 : Int) ≤ _; omega, fun j _ => ?_⟩
  · unfold Amid cnt
    rw [if_neg (by omega), if_pos (by have := hz j hj; omega)]
  · simp [Cad.start]

/-- When the run is at its end each first job has been done at its bound. -/
theorem rch_end {S : Sy} {W B : Nat → Int} {z now : Int} {m : Mc} {F : Nat → Int} (hb : Bd S W B) (h : Rch S W B z now 0 m F) {j : Nat} (hj : j < S.n) (he : z + W j ≤ now) : F j = z + W j := by
  have hr := h.rn'
  have hnow := h.time
  rw [h.first j hj]
  by_cases c : m.done j = 0
  · exfalso
    have h1 := hr.all j hj
    have hp := hb.per j hj
    have hw := hb.pos j hj
    have hA : 1 ≤ Amid S z now 0 j := by
      unfold Amid cnt
      rw [if_neg (by omega), if_neg (by omega)]
      have := Int.ediv_nonneg (a := now - 1 - (z - S.J j)) (b := S.P j) (by omega) (by omega)
      omega
    have hone := hr.t.q.one j hj
    rw [c] at h1
    cases hq : m.q j with
    | nil => rw [hq] at h1; simp at h1; omega
    | cons x l =>
      have hx : x ∈ m.q j := by rw [hq]; simp
      have hA1 : Amid S z now 0 j = 1 := by omega
      have h2 := (hr.job j hj x hx).1
      rw [hA1] at h2
      simp at h2
      have h3 := hr.t.young hj hx
      omega
  · rw [if_neg c]

end Go.Proofs.Ytdabcflpcklfiaa
