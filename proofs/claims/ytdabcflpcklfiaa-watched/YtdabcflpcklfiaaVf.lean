import Derived.Test.YtdabcflpcklfiaaVe
/- Plain mathematics: a whole tick, and an arrival. -/
namespace Go.Proofs.Ytdabcflpcklfiaa.Cad

theorem wi_tick {S : Sy} {m : Mc} {u : Wt} (hs : SyOk S) (ho : Ok S m) (hk : LkInv S m) (h : WI S m u) {t : Nat} (hc : (chTo S m S.n).1 = (t : Int)) (ht : t < S.n) {x : Wr} {l : List Wr} {j : Jb} {lq : List Jb} (hq : m.q t = j :: lq) (hx : u.runs t = x :: l) :
    WI S (tickAt S m t j lq).1 (wtick S u t x l) ∧ (tickAt S m t j lq).2 = decide ((endW S t (goesW S t u.now x)).left = []) := by
  have hnow := h.now
  obtain ⟨j', lq', hq', hjw, _⟩ := h.kern ht hx
  rw [hq] at hq'
  cases hq'
  have hjo := (ho.job t ht j (by rw [hq]; simp)).1
  obtain ⟨e1, e2, e3, e4, e5, e6⟩ := jw_tick (now := u.now) (hh := m.hold) (hs.prog t ht) hjo hjw
  have hrk := runK_ok (t := t) (h := m.hold) hjo
  have hrel : (runK (S.K t) (S.L t) t m.hold j).2.rel = j.rel := hrk.2.2.2.2.1
  by_cases hp : (runK (S.K t) (S.L t) t m.hold j).2.p < S.L t
  · have hne : ¬ (endW S t (goesW S t u.now x)).left = [] := fun g => (e2.1 g) hp
    have hT : tickAt S m t j lq = ({ m with now := m.now + 1, hold := (runJ S t m.hold j).1, q := upd m.q t ((runJ S t m.hold j).2 :: lq) }, false) := by
      unfold tickAt
      simp only []
      exact if_pos hp
    rw [hT]
    refine ⟨?_, by simp [hne]⟩
    refine wi_tickRun (x2 := endW S t (goesW S t u.now x)) (j2 := (runK (S.K t) (S.L t) t m.hold j).2) (dn := false) hs ho hk h hc ht hq hx ⟨e1, e4, e5, e6, by rw [← hnow]; exact e3, hrel, .inl ⟨rfl, upd_same _ _ _, ?_⟩⟩ rfl rfl rfl rfl (fun a ha => upd_other _ _ ha) (fun a ha => ?_)
    · show (if t = t then _ else _) = _
      rw [if_pos rfl, if_neg hne]
    · show (if a = t then _ else _) = _
      rw [if_neg ha, hnow]
  · have hne : (endW S t (goesW S t u.now x)).left = [] := e2.2 hp
    have hT : tickAt S m t j lq = ({ m with now := m.now + 1, hold := (runJ S t m.hold j).1, q := upd m.q t lq, done := upd m.done t (m.done t + 1), kept := keep m.kept ⟨t, j.arr, j.rel, m.now + 1, (runJ S t m.hold j).2.left, j.ord⟩ }, true) := by
      unfold tickAt
      simp only []
      exact if_neg hp
    rw [hT]
    refine ⟨?_, by simp [hne]⟩
    refine wi_tickRun (x2 := endW S t (goesW S t u.now x)) (j2 := (runK (S.K t) (S.L t) t m.hold j).2) (dn := true) hs ho hk h hc ht hq hx ⟨e1, e4, e5, e6, by rw [← hnow]; exact e3, hrel, .inr ⟨rfl, upd_same _ _ _, ?_⟩⟩ rfl rfl rfl rfl (fun a ha => upd_other _ _ ha) (fun a ha => ?_)
    · show (if t = t then _ else _) = _
      rw [if_pos rfl, if_pos hne, hnow]
    · show (if a = t then _ else _) = _
      rw [if_neg ha, hnow]

theorem cons_snoc {α : Type} {l : List α} {z x : α} {r : List α} (h : l ++ [z] = x :: r) : (l = [] ∧ x = z ∧ r = []) ∨ ∃ r0, l = x :: r0 ∧ r = r0 ++ [z] := by
  cases l with
  | nil => simp at h; exact .inl ⟨rfl, h.1.symm, h.2⟩
  | cons a l0 => simp at h; exact .inr ⟨l0, by rw [h.1], h.2.symm⟩

theorem wi_arr {S : Sy} {m : Mc} {u : Wt} (h : WI S m u) {t : Nat} (ht : t < S.n) {jit : Int} {l : List Int} (hj0 : 0 ≤ jit) (hl : l.length = cmpTo (S.K t) (S.L t)) : WI S (added S m t jit (fun q => l.getD q 0)) (warr u t jit l) := by
  have hnow := h.now
  have hnew : JW S t ⟨u.now + jit, l, 0, [], [], -1, 0⟩ (jobOf S m t jit (fun q => l.getD q 0)) := by
    refine ⟨rfl, ?_, rfl, rfl, ?_⟩
    · show l = cmpsFrom (S.K t) (numOf (S.K t) (S.N t) (fun q => l.getD q 0)) (S.L t) 0
      rw [cmps_new hl (S.L t) 0 (by omega)]
      rfl
    · show m.now + jit ≤ u.now + jit
      rw [hnow]; exact Int.le_refl _
  have hQt : (added S m t jit (fun q => l.getD q 0)).q t = m.q t ++ [jobOf S m t jit (fun q => l.getD q 0)] := upd_same _ _ _
  have hQ : ∀ a, a ≠ t → (added S m t jit (fun q => l.getD q 0)).q a = m.q a := fun a ha => upd_other _ _ ha
  have hRt : (warr u t jit l).runs t = u.runs t ++ [⟨u.now + jit, l, 0, [], [], -1, 0⟩] := upd_same _ _ _
  have hR : ∀ a, a ≠ t → (warr u t jit l).runs a = u.runs a := fun a ha => upd_other _ _ ha
  have hlen := h.len t ht
  have head : ∀ a x la, a < S.n → (warr u t jit l).runs a = x :: la → (∃ r0, u.runs a = x :: r0 ∧ (la = r0 ∨ a = t ∧ la = r0 ++ [⟨u.now + jit, l, 0, [], [], -1, 0⟩])) ∨ (a = t ∧ u.runs t = [] ∧ x = ⟨u.now + jit, l, 0, [], [], -1, 0⟩ ∧ la = []) := by
    intro a x la ha hx
    by_cases e : a = t
    · subst e
      rw [hRt] at hx
      rcases cons_snoc hx with ⟨g1, g2, g3⟩ | ⟨r0, g1, g2⟩
      · exact .inr ⟨rfl, g1, g2, g3⟩
      · exact .inl ⟨r0, g1, .inr ⟨rfl, g2⟩⟩
    · rw [hR a e] at hx
      exact .inl ⟨la, hx, .inl rfl⟩
  refine ⟨hnow, h.idle, fun a ha => ?_, fun a ha i y jy hy hjy => ?_, fun a y ly jy ljy ha hy hjy => ?_, fun a y ly ha hy i z jz hz hjz => ?_, fun a y ly ha hy s hsm => ?_, fun a y ly ha hy hb => ?_, fun a xa la b y lb ha hb hz hxa hy i s hsi hle => ?_, fun b y lb a xa la hb ha hz hy hbk hxa hs0 hslt => ?_⟩
  · by_cases e : a = t
    · subst e; rw [hQt, hRt, List.length_append, List.length_append, hlen]; rfl
    · rw [hQ a e, hR a e]; exact h.len a ha
  · by_cases e : a = t
    · subst e
      rw [hRt] at hy; rw [hQt] at hjy
      by_cases hi : i < (u.runs a).length
      · rw [List.getElem?_append_left hi] at hy
        rw [List.getElem?_append_left (by omega)] at hjy
        exact h.jw a ha i y jy hy hjy
      · rw [List.getElem?_append_right (by omega)] at hy
        rw [List.getElem?_append_right (by omega)] at hjy
        rw [hlen] at hy
        cases hd : i - (m.q a).length with
        | zero => rw [hd] at hy hjy; simp at hy hjy; subst hy; subst hjy; exact hnew
        | succ k => rw [hd] at hy; simp at hy
    · rw [hR a e] at hy; rw [hQ a e] at hjy
      exact h.jw a ha i y jy hy hjy
  · show y.ready = jy.rel ∨ y.ready ≤ m.now
    rcases head a y ly ha hy with ⟨r0, g1, _⟩ | ⟨rfl, g1, g2, g3⟩
    · obtain ⟨j0, lq0, hq0, _⟩ := h.kern ha g1
      have hje : jy = j0 := by
        by_cases e : a = t
        · subst e; rw [hQt, hq0] at hjy; simp at hjy; exact hjy.1.symm
        · rw [hQ a e, hq0] at hjy; cases hjy; rfl
      rw [hje]
      exact h.hd a y r0 j0 lq0 ha g1 hq0
    · left
      have : m.q a = [] := List.length_eq_zero_iff.1 (by rw [← hlen, g1]; rfl)
      rw [hQt, this] at hjy
      simp at hjy
      rw [← hjy.1, g2]
      show u.now + jit = m.now + jit
      rw [hnow]
  · rcases head a y ly ha hy with ⟨r0, g1, g2⟩ | ⟨rfl, g1, g2, g3⟩
    · obtain ⟨j0, lq0, hq0, _, hll⟩ := h.kern ha g1
      rcases g2 with g2 | ⟨e, g2⟩
      · by_cases e : a = t
        · subst e
          rw [hRt, g1] at hy
          simp at hy
          rw [← hy] at g2
          simp at g2
        · rw [hQ a e] at hjz
          rw [g2] at hz
          exact h.tl a y r0 ha g1 i z jz hz hjz
      · subst e
        rw [hQt, hq0] at hjz
        rw [g2] at hz
        by_cases hi : i < r0.length
        · rw [List.getElem?_append_left hi] at hz
          rw [List.getElem?_append_left (by simp; omega)] at hjz
          exact h.tl a y r0 ha g1 i z jz hz (by rw [hq0]; exact hjz)
        · rw [List.getElem?_append_right (by omega)] at hz
          rw [List.getElem?_append_right (by simp; omega)] at hjz
          have e2 : i + 1 - (j0 :: lq0).length = i - r0.length := by simp; omega
          rw [e2] at hjz
          cases hd : i - r0.length with
          | zero =>
            rw [hd] at hz hjz
            simp at hz hjz
            subst hz; subst hjz
            exact ⟨rfl, by show u.now + jit = m.now + jit; rw [hnow]⟩
          | succ k => rw [hd] at hz; simp at hz
    · rw [g3] at hz; simp at hz
  · show 0 ≤ s ∧ s < m.now
    rcases head a y ly ha hy with ⟨r0, g1, _⟩ | ⟨rfl, g1, g2, g3⟩
    · exact h.old a y r0 ha g1 s hsm
    · rw [g2] at hsm; cases hsm
  · show y.ready < m.now
    rcases head a y ly ha hy with ⟨r0, g1, _⟩ | ⟨rfl, g1, g2, g3⟩
    · exact h.byr a y r0 ha g1 hb
    · rw [g2] at hb
      have : (0 : Int) ≤ -1 := hb
      omega
  · rcases head a xa la ha hxa with ⟨r0, g1, _⟩ | ⟨rfl, g1, g2, g3⟩
    · rcases head b y lb hb hy with ⟨r1, k1, _⟩ | ⟨rfl, k1, k2, k3⟩
      · exact h.i1 a xa r0 b y r1 ha hb hz g1 k1 i s hsi hle
      · exfalso
        have h1 := h.old a xa r0 ha g1 s (List.mem_of_getElem? hsi)
        rw [k2] at hle
        have : u.now + jit ≤ s := hle
        omega
    · rw [g2] at hsi; simp at hsi
  · rcases head b y lb hb hy with ⟨r1, k1, _⟩ | ⟨rfl, k1, k2, k3⟩
    · rcases head a xa la ha hxa with ⟨r0, g1, _⟩ | ⟨rfl, g1, g2, g3⟩
      · exact h.i2 b y r1 a xa r0 hb ha hz k1 hbk g1 hs0 hslt
      · rw [g2] at hs0
        simp [sectOf] at hs0
    · rw [k2] at hbk
      have : (0 : Int) ≤ -1 := hbk
      omega

end Go.Proofs.Ytdabcflpcklfiaa.Cad
