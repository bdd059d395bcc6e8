import Derived.Test.YtdabcflpcklfiaaTe
/- Plain mathematics: a level behind a tick: no busy time is as long as its bound. -/
namespace Go.Proofs.Ytdabcflpcklfiaa.Cad

theorem dm_pos {S : Sy} (hs : SyOk S) {t : Nat} (ht : t < S.n) : 1 ≤ dmS S t := (dem_pos (hs.prog t ht)).1

/-- A busy time that is no longer than the bound is shorter. -/
theorem Lv.tight {S : Sy} {W W' B : Nat → Int} {m : Mc} {i : Nat} {s : Int} {ex N nb : Nat → Int} {bl : Int} {st : Nat → Bool} (hs : SyOk S) (hb : Bd S W B) (ho : Ok S m) (hi : i < S.n) (h : Lv S W' B m i s ex N nb bl st) (hw : m.now - s ≤ W i) : Lv S W B m i s ex N nb bl st := by
  refine { h with len := ?_ }
  have hdm := dm_pos hs hi
  have hown : ex i ≤ dmS S i - 1 := by
    obtain ⟨u1, u2, u3⟩ := h.used i hi (Int.le_refl _)
    rcases h.own with e | ⟨e, e2⟩
    · rw [e, Int.mul_zero] at u2
      omega
    · have hne := h.run i hi (Int.le_refl _) e2
      cases hq : m.q i with
      | nil => exact absurd hq hne
      | cons x l =>
        have h1 := u3 x l hq e2
        have h2 := left_pos (ho.job i hi x (by rw [hq]; simp)).1
        rw [e, Int.mul_one] at h1
        omega
  have hsum := level_sum (P := S.P) (J := S.J) (dm := dmS S) (Z := S.Z) (i := i) (w := m.now - s) (f := ex) (own := dmS S i - 1) S.n
    (fun j hj hz => by
      obtain ⟨u1, u2, _⟩ := h.used j hj (by omega)
      obtain ⟨c1, c2⟩ := h.many j hj (by omega)
      have hp := hb.per j hj
      have hdj := dm_pos hs hj
      have hN : N j ≤ ceilD (m.now - s + S.J j) (S.P j) := by
        rcases Int.lt_or_le (N j) 1 with g | g
        · have := ceilD_nonneg (a := m.now - s + S.J j) (p := S.P j) (by have := h.before; omega) hp.1
          omega
        · have := c2 g
          exact count_le hp.1 (by omega)
      have := Int.mul_le_mul_of_nonneg_right hN (show 0 ≤ dmS S j by omega)
      rw [Int.mul_comm (dmS S j)] at u2
      omega)
    (fun j hj hne hz => by
      rcases Int.lt_or_le (S.Z j) (S.Z i) with g | g
      · exact h.low j hj g
      · exact absurd (hs.inj j i hj hi (by omega)) hne)
    (fun _ => hown) (by omega)
  rw [if_pos hi] at hsum
  have h1 := h.sum
  have h2 := h.bl1
  have h3 := hb.fix i hi
  rcases Int.lt_or_le (m.now - s) (W i) with g | g
  · exact g
  · have e : m.now - s = W i := by omega
    rw [e] at hsum h1
    omega

theorem q_one {S : Sy} {m : Mc} (hq : QInv S m) {t : Nat} (ht : t < S.n) {x : Jb} (hx : x ∈ m.q t) : m.q t = [x] := by
  have h1 := hq.one t ht
  cases h : m.q t with
  | nil => rw [h] at hx; cases hx
  | cons a l =>
    rw [h] at h1 hx
    simp only [List.length_cons] at h1
    have : l = [] := List.eq_nil_of_length_eq_zero (by omega)
    subst this
    have : x = a := by simpa using hx
    rw [this]

theorem ready_of {S : Sy} {m : Mc} (hq : QInv S m) {t : Nat} (ht : t < S.n) {x : Jb} (hx : x ∈ m.q t) (hr : x.rel ≤ m.now) : readyB m t = true := by
  unfold readyB
  rw [q_one hq ht hx]
  simpa using hr

/-- What a tick of task t does, as far as the levels look. -/
structure Stp (S : Sy) (m m' : Mc) (t : Nat) (j x : Jb) (dn : Bool) : Prop where
  now : m'.now = m.now + 1
  last : m'.last = m.last
  here : m'.q t = if dn = true then [] else [x]
  other : ∀ a, a ≠ t → m'.q a = m.q a
  more : 0 < m'.done t + (m'.q t).length
  same : ∀ a, a ≠ t → m'.done a = m.done a
  fin : dn = true → x.p = S.L t
  arr : x.arr = j.arr
  rel : x.rel = j.rel
  left : x.left = j.left - 1
  run : x = (runK (S.K t) (S.L t) t m.hold j).2

theorem stp_of {S : Sy} {m : Mc} {t : Nat} {j : Jb} (hj : JbOk (S.K t) (S.L t) j) : ∃ x dn, Stp S m (tickAt S m t j []).1 t j x dn ∧ dn = (tickAt S m t j []).2 := by
  obtain ⟨k1, k2, k3, k4, k5, k6, k7⟩ := runK_ok (t := t) (h := m.hold) hj
  refine ⟨(runK (S.K t) (S.L t) t m.hold j).2, (tickAt S m t j []).2, ?_, rfl⟩
  by_cases hp : (runK (S.K t) (S.L t) t m.hold j).2.p < S.L t
  · have e : tickAt S m t j [] = ({ m with now := m.now + 1, hold := (runK (S.K t) (S.L t) t m.hold j).1, q := upd m.q t [(runK (S.K t) (S.L t) t m.hold j).2] }, false) := by
      unfold tickAt
      exact if_pos hp
    rw [e]
    refine ⟨rfl, rfl, ?_, fun a ha => upd_other _ _ ha, ?_, fun a _ => rfl, fun h => (by cases h), k4, k5, k7, rfl⟩
    · show upd m.q t _ t = _
      rw [upd_same]; rfl
    · show 0 < _ + (upd m.q t _ t).length
      rw [upd_same]; simp
  · have e : tickAt S m t j [] = ({ m with now := m.now + 1, hold := (runK (S.K t) (S.L t) t m.hold j).1, q := upd m.q t [], done := upd m.done t (m.done t + 1), kept := keep m.kept ⟨t, j.arr, j.rel, m.now + 1, (runK (S.K t) (S.L t) t m.hold j).2.left, j.ord⟩ }, true) := by
      unfold tickAt
      exact if_neg hp
    rw [e]
    refine ⟨rfl, rfl, ?_, fun a ha => upd_other _ _ ha, ?_, fun a ha => upd_other _ _ ha, fun _ => by omega, k4, k5, k7, rfl⟩
    · show upd m.q t _ t = _
      rw [upd_same]; rfl
    · show 0 < upd m.done t (m.done t + 1) t + _
      rw [upd_same]; omega

theorem q_stp {S : Sy} {m m' : Mc} {t : Nat} {j x : Jb} {dn : Bool} (hq : QInv S m) (hqt : m.q t = [j]) (h : Stp S m m' t j x dn) : QInv S m' := by
  refine ⟨fun a ha => ?_, fun a ha y hy => ?_⟩
  · by_cases e : a = t
    · subst e
      rw [h.here]
      split <;> simp
    · rw [h.other a e]; exact hq.one a ha
  · rw [h.last]
    by_cases e : a = t
    · subst e
      rw [h.here] at hy
      split at hy
      · cases hy
      · have : y = x := by simpa using hy
        rw [this, h.arr, h.rel]
        exact hq.arrl a ha j (by rw [hqt]; simp)
    · rw [h.other a e] at hy; exact hq.arrl a ha y hy

/-- Who is done with a tick held nothing in it. -/
theorem last_free {S : Sy} {t r : Nat} {h : Nat → Int} {j : Jb} (_hp : progB (S.K t) (S.N t) (S.L t) = true) (hj : JbOk (S.K t) (S.L t) j) (hd : (runK (S.K t) (S.L t) t h j).2.p = S.L t) : ¬ Inside S t j.p r := by
  rintro ⟨k, e, hc, hk, he⟩
  obtain ⟨hlt, _⟩ := rem_pos hj hc he
  obtain ⟨_, h2⟩ := run_place (t := t) (h := h) hj
  have h3 := h2 (S.L t - 1) (by have := hc.2.1; omega) (by have := hj.lt; omega)
  have := hj.last
  omega

end Go.Proofs.Ytdabcflpcklfiaa.Cad
