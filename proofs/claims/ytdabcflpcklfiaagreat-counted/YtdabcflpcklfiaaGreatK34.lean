import Derived.Test.YtdabcflpcklfiaaGreatK33
/- Plain mathematics: where nobody locks, the first jobs are done just at their bounds (P14). -/
namespace Go.Proofs.YtdabcflpcklfiaaGreat.Cad

/-- Whatever is not below its image is not below the least number that fits. -/
theorem least_le {f : Int → Int} {w : Int} (hm : ∀ a b, a ≤ b → f a ≤ f b) (h1 : ∀ u, 1 ≤ u → 1 ≤ f u) (hn : ∀ u, 1 ≤ u → u < w → f u ≠ u) : ∀ (k : Nat) (x : Int), x.toNat ≤ k → 1 ≤ x → f x ≤ x → w ≤ x
  | 0, x, hk, hx, _ => by omega
  | k + 1, x, hk, hx, hf => by
    by_cases e : f x = x
    · rcases Int.lt_or_le x w with g | g
      · exact absurd e (hn x hx g)
      · exact g
    · have h2 := h1 x hx
      have := least_le hm h1 hn k (f x) (by omega) h2 (hm _ _ hf)
      omega

/-- How many arrive before t: at f, f + P and so on. -/
def cnt (f P t : Int) : Int := if t ≤ f then 0 else (t - 1 - f) / P + 1

theorem cnt_first {f P t : Int} (_hP : 1 ≤ P) (h : t = f) : cnt f P t = 0 ∧ cnt f P (t + 1) = 1 := by
  subst h
  unfold cnt
  rw [if_pos (Int.le_refl _), if_neg (by omega)]
  have : t + 1 - 1 - t = 0 := by omega
  rw [this]
  simp

theorem cnt_next {f P t : Int} (hP : 1 ≤ P) (h : f < t) (hd : (t - f) % P = 0) : t = f + cnt f P t * P ∧ 1 ≤ cnt f P t ∧ cnt f P (t + 1) = cnt f P t + 1 := by
  obtain ⟨q, hq⟩ : ∃ q, t - f = P * q := Int.dvd_of_emod_eq_zero hd
  have hq1 : 1 ≤ q := by
    rcases Int.lt_or_le 0 q with g | g
    · omega
    · have := Int.mul_le_mul_of_nonneg_left g (show 0 ≤ P by omega)
      rw [Int.mul_zero] at this
      omega
  have e1 : (t - 1 - f) / P = q - 1 := by
    have : t - 1 - f = (P - 1) + P * (q - 1) := by rw [Int.mul_sub, Int.mul_one, ← hq]; omega
    rw [this, Int.add_mul_ediv_left _ _ (by omega), Int.ediv_eq_zero_of_lt (by omega) (by omega)]
    omega
  have e2 : (t + 1 - 1 - f) / P = q := by
    have : t + 1 - 1 - f = P * q := by omega
    rw [this, Int.mul_ediv_cancel_left _ (by omega)]
  unfold cnt
  rw [if_neg (by omega), if_neg (by omega), e1, e2]
  refine ⟨?_, by omega, by omega⟩
  rw [show q - 1 + 1 = q by omega, Int.mul_comm]
  omega

theorem cnt_same {f P t : Int} (hP : 1 ≤ P) (h : t ≠ f) (hd : ¬ (f < t ∧ (t - f) % P = 0)) : cnt f P (t + 1) = cnt f P t := by
  unfold cnt
  rcases Int.lt_or_le f t with g | g
  · rw [if_neg (by omega), if_neg (by omega)]
    have hne : (t - f) % P ≠ 0 := fun e => hd ⟨g, e⟩
    have h1 := Int.emod_add_mul_ediv (t - f) P
    have h2 := Int.emod_nonneg (t - f) (show P ≠ 0 by omega)
    have h3 := Int.emod_lt_of_pos (t - f) (show 0 < P by omega)
    have e2 : (t - 1 - f) / P = (t - f) / P := by
      have : t - 1 - f = ((t - f) % P - 1) + P * ((t - f) / P) := by omega
      rw [this, Int.add_mul_ediv_left _ _ (by omega), Int.ediv_eq_zero_of_lt (by omega) (by omega)]
      omega
    have : t + 1 - 1 - f = t - f := by omega
    rw [this, e2]
  · rw [if_pos (by omega), if_pos g]

theorem cnt_ceil {z J P x : Int} (hP : 1 ≤ P) (hJ : 0 ≤ J) (hx : 1 ≤ x) : cnt (z - J) P (z + x) = ceilD (x + J) P := by
  unfold cnt ceilD
  rw [if_neg (by omega)]
  have : x + J + P - 1 = (z + x - 1 - (z - J)) + P * 1 := by omega
  rw [this, Int.add_mul_ediv_left _ _ (by omega)]

/-- The sum over a level from below. -/
theorem level_ge {P J dm : Nat → Int} {Z : Nat → Int} {i : Nat} {w : Int} {f : Nat → Int} {own : Int} : ∀ n, (∀ j, j < n → Z i < Z j → ceilD (w + J j) (P j) * dm j ≤ f j) → (∀ j, j < n → 0 ≤ f j) → (i < n → own ≤ f i) →
    inter P J dm (fun j => decide (Z i < Z j)) w n + (if i < n then own else 0) ≤ sumTo f n
  | 0, _, _, _ => by simp [sumTo, inter]
  | n + 1, h1, h2, h3 => by
    have ih := level_ge (P := P) (J := J) (dm := dm) (w := w) (own := own) n (fun j hj => h1 j (by omega)) (fun j hj => h2 j (by omega)) (fun h => h3 (by omega))
    unfold sumTo inter
    by_cases e : i = n
    · subst e
      rw [if_neg (Nat.lt_irrefl _)] at ih
      rw [if_pos (Nat.lt_succ_self _)]
      have := h3 (by omega)
      have hno : ¬ (decide (Z i < Z i) = true) := by simp
      rw [if_neg hno]
      omega
    · by_cases c : Z i < Z n
      · have := h1 n (by omega) c
        have hyes : decide (Z i < Z n) = true := by simpa using c
        rw [if_pos hyes]
        by_cases g : i < n
        · rw [if_pos g] at ih; rw [if_pos (by omega)]; omega
        · rw [if_neg g] at ih; rw [if_neg (by omega)]; omega
      · have := h2 n (by omega)
        have hno : ¬ (decide (Z i < Z n) = true) := by simpa using c
        rw [if_neg hno]
        by_cases g : i < n
        · rw [if_pos g] at ih; rw [if_pos (by omega)]; omega
        · rw [if_neg g] at ih; rw [if_neg (by omega)]; omega

/-- The ticks that task j has had. -/
def usedOf (S : Sy) (m : Mc) (j : Nat) : Int := dmS S j * (m.done j : Int) + (match m.q j with | [] => 0 | x :: _ => dmS S j - x.left)

/-- The run with the jobs that the document names: A j of task j have arrived. -/
structure Rn (S : Sy) (W B : Nat → Int) (z : Int) (m : Mc) (A : Nat → Int) : Prop where
  t : TInv S W B m
  ok : Ok S m
  all : ∀ j, j < S.n → (m.done j : Int) + ((m.q j).length : Int) = A j
  job : ∀ j, j < S.n → ∀ x ∈ m.q j, x.arr = z - S.J j + (A j - 1) * S.P j ∧ x.rel = (if A j = 1 then z else x.arr) ∧ x.left ≤ dmS S j
  lastA : ∀ j, j < S.n → 1 ≤ A j → m.last j = z - S.J j + (A j - 1) * S.P j
  work : sumTo (usedOf S m) S.n + m.idle = m.now
  idl : z ≤ m.idle ∨ m.idle = m.now

theorem sumTo_start (S : Sy) : ∀ n, sumTo (usedOf S start) n = 0
  | 0 => rfl
  | n + 1 => by
    unfold sumTo
    rw [sumTo_start S n]
    simp [usedOf, start]

theorem rn_start {S : Sy} {W B : Nat → Int} {z : Int} (hs : SyOk S) (hb : Bd S W B) (ho : Ok S start) : Rn S W B z start (fun _ => 0) :=
  ⟨t_start hs hb, ho, fun j _ => by simp [start], fun j _ x hx => by simp [start] at hx, fun j _ h => by omega, by rw [sumTo_start]; rfl, .inr rfl⟩

/-- No job is released before z. -/
theorem Rn.rel_ge {S : Sy} {W B : Nat → Int} {z : Int} {m : Mc} {A : Nat → Int} (hb : Bd S W B) (h : Rn S W B z m A) {j : Nat} (hj : j < S.n) {x : Jb} (hx : x ∈ m.q j) : 1 ≤ A j ∧ z ≤ x.rel := by
  obtain ⟨h1, h2, _⟩ := h.job j hj x hx
  have hA : 1 ≤ A j := by
    have := h.all j hj
    have : 1 ≤ (m.q j).length := List.length_pos_of_mem hx
    omega
  refine ⟨hA, ?_⟩
  rw [h2]
  split
  · omega
  · rename_i e
    have h3 := hb.fits j hj
    have h4 := hb.pos j hj
    have h5 := hb.per j hj
    have h6 := Int.mul_le_mul_of_nonneg_right (show (1 : Int) ≤ A j - 1 by omega) (show 0 ≤ S.P j by omega)
    rw [Int.one_mul] at h6
    omega

end Go.Proofs.YtdabcflpcklfiaaGreat.Cad

/- Plain mathematics: the run with the jobs that the document names, tick by tick. -/
namespace Go.Proofs.YtdabcflpcklfiaaGreat.Cad

theorem dem_same {K N N' : Nat → Int} : ∀ L, (∀ k, k < L → K k = 1 → N' k = N k) → demTo K N' L = demTo K N L
  | 0, _ => rfl
  | L + 1, h => by
    unfold demTo
    rw [dem_same L (fun k hk => h k (by omega))]
    by_cases e : K L = 1
    · rw [if_pos e, if_pos e, h L (by omega) e]
    · rw [if_neg e, if_neg e]

/-- Demands as great as they may be. -/
def Full (K N : Nat → Int) (L : Nat) (D : Nat → Int) (d : Nat) : Prop := Fits K N L D d ∧ ∀ k, k < L → K k = 1 → D (cmpTo K k) = N k

theorem rn_added {S : Sy} {W B : Nat → Int} {z : Int} {m : Mc} {A : Nat → Int} (hb : Bd S W B) (h : Rn S W B z m A) {t : Nat} (ht : t < S.n) {jit : Int} {D : Nat → Int} {d : Nat} (hf : Full (S.K t) (S.N t) (S.L t) D d)
    (hc : (A t = 0 ∧ m.now = z - S.J t ∧ jit = S.J t) ∨ (1 ≤ A t ∧ m.now = z - S.J t + A t * S.P t ∧ jit = 0)) :
    refuse S m t jit D d = 0 ∧ (Ok S (added S m t jit D) → Rn S W B z (added S m t jit D) (upd A t (A t + 1))) := by
  have hp := hb.per t ht
  have hall := h.all t ht
  have hr1 : ¬ (0 < m.done t + (m.q t).length ∧ m.now - m.last t < S.P t) := by
    rintro ⟨g1, g2⟩
    rcases hc with ⟨c1, c2, c3⟩ | ⟨c1, c2, c3⟩
    · omega
    · have := h.lastA t ht c1
      rw [Int.sub_mul, Int.one_mul] at this
      omega
  have hqt := h.t.empty hb ht hr1
  have hjit : 0 ≤ jit ∧ jit ≤ S.J t := by
    rcases hc with ⟨c1, c2, c3⟩ | ⟨c1, c2, c3⟩ <;> omega
  have href : refuse S m t jit D d = 0 := by
    unfold refuse
    rw [if_neg hr1, if_neg (by omega), if_neg (fun g => (fitsB_false _ _ _ _ _).mp g hf.1), if_neg (by rw [hqt]; simp)]
  refine ⟨href, fun ho => ?_⟩
  have hA0 : 0 ≤ A t := by omega
  have hqs : (added S m t jit D).q t = [jobOf S m t jit D] := by
    show upd m.q t (m.q t ++ [jobOf S m t jit D]) t = _
    rw [upd_same, hqt]; rfl
  have hqo : ∀ a, a ≠ t → (added S m t jit D).q a = m.q a := fun a ha => upd_other _ _ ha
  have hleft : (jobOf S m t jit D).left = dmS S t := by
    show demTo (S.K t) (numOf (S.K t) (S.N t) D) (S.L t) = demTo (S.K t) (S.N t) (S.L t)
    refine dem_same _ (fun k hk h1 => ?_)
    unfold numOf
    rw [if_pos h1]
    exact hf.2 k hk h1
  have hnow : m.now = z - S.J t + A t * S.P t := by
    rcases hc with ⟨c1, c2, c3⟩ | ⟨c1, c2, c3⟩
    · rw [c1, Int.zero_mul]; omega
    · exact c2
  refine ⟨t_added hb h.t ht href, ho, fun a ha => ?_, fun a ha x hx => ?_, fun a ha g => ?_, ?_, h.idl⟩
  · by_cases e : a = t
    · subst e
      rw [hqs, upd_same]
      show (m.done a : Int) + _ = _
      rw [hqt] at hall
      simp at hall ⊢
      omega
    · rw [hqo a e, upd_other _ _ e]; exact h.all a ha
  · by_cases e : a = t
    · subst e
      rw [hqs] at hx
      have : x = jobOf S m a jit D := by simpa using hx
      rw [this, upd_same, hleft]
      refine ⟨?_, ?_, Int.le_refl _⟩
      · show m.now = _
        rw [hnow, Int.add_sub_cancel]
      · show m.now + jit = if A a + 1 = 1 then z else m.now
        rcases hc with ⟨c1, c2, c3⟩ | ⟨c1, c2, c3⟩
        · rw [if_pos (by omega)]; omega
        · rw [if_neg (by omega)]; omega
    · rw [hqo a e] at hx
      rw [upd_other _ _ e]; exact h.job a ha x hx
  · show upd m.last t m.now a = _
    by_cases e : a = t
    · subst e
      rw [upd_same, upd_same, Int.add_sub_cancel]
      exact hnow
    · rw [upd_other _ _ e] at g ⊢
      rw [upd_other _ _ e]
      exact h.lastA a ha g
  · show sumTo (usedOf S (added S m t jit D)) S.n + m.idle = m.now
    rw [sumTo_same (f := usedOf S m) S.n (fun a ha => ?_)]
    · exact h.work
    · unfold usedOf
      by_cases e : a = t
      · subst e
        rw [hqs, hqt]
        show dmS S a * (m.done a : Int) + (dmS S a - (jobOf S m a jit D).left) = dmS S a * (m.done a : Int) + 0
        rw [hleft]
        omega
      · rw [hqo a e]; rfl

theorem tickAt_done {S : Sy} {m : Mc} {t : Nat} {j : Jb} : ((tickAt S m t j []).2 = true ∧ (tickAt S m t j []).1.done t = m.done t + 1 ∨ (tickAt S m t j []).2 = false ∧ (tickAt S m t j []).1.done t = m.done t) ∧ (tickAt S m t j []).1.idle = m.idle := by
  unfold tickAt
  simp only []
  split
  · exact ⟨.inr ⟨rfl, rfl⟩, rfl⟩
  · exact ⟨.inl ⟨rfl, upd_same _ _ _⟩, rfl⟩

theorem used_nonneg {S : Sy} {W B : Nat → Int} {z : Int} {m : Mc} {A : Nat → Int} (hs : SyOk S) (h : Rn S W B z m A) {j : Nat} (hj : j < S.n) : 0 ≤ usedOf S m j := by
  have h1 := dm_pos hs hj
  have h2 := Int.mul_nonneg (show 0 ≤ dmS S j by omega) (show (0 : Int) ≤ (m.done j : Int) by omega)
  unfold usedOf
  cases hq : m.q j with
  | nil => show 0 ≤ dmS S j * (m.done j : Int) + 0; omega
  | cons x l =>
    have := (h.job j hj x (by rw [hq]; simp)).2.2
    show 0 ≤ dmS S j * (m.done j : Int) + (dmS S j - x.left)
    omega

theorem rn_tick {S : Sy} {W B : Nat → Int} {z : Int} {m : Mc} {A : Nat → Int} (hs : SyOk S) (hb : Bd S W B) (hn : m.now < 1000000000000000000) (h : Rn S W B z m A) : Rn S W B z (tick S m).1 A ∧ (∀ a : Nat, a < S.n → (tick S m).2.1 ≠ (a : Int) ∨ (tick S m).2.2 = false → (tick S m).1.done a = m.done a) ∧ (tick S m).1.now = m.now + 1 ∧
    ((tick S m).2.2 = true → ∃ t, t < S.n ∧ (tick S m).2.1 = (t : Int) ∧ (tick S m).1.done t = m.done t + 1) := by
  have ht' := t_tick hs hb h.ok hn h.t
  have ho' := ok_tick h.ok hn
  rcases tick_cases S m with ⟨hc, e⟩ | ⟨t, j, l, ht, hqt, hrel, hc, e⟩
  · rw [e] at ht' ho' ⊢
    refine ⟨⟨ht', ho', h.all, h.job, h.lastA, ?_, ?_⟩, fun _ _ _ => rfl, rfl, fun g => by cases g⟩
    · have := h.work
      show sumTo (usedOf S m) S.n + (m.idle + 1) = m.now + 1
      omega
    · show z ≤ m.idle + 1 ∨ m.idle + 1 = m.now + 1
      rcases h.idl with g | g <;> omega
  · have hl0 : l = [] := by
      have := h.t.q.one t ht
      rw [hqt] at this
      simp only [List.length_cons] at this
      exact List.eq_nil_of_length_eq_zero (by omega)
    subst hl0
    have hmem : j ∈ m.q t := by rw [hqt]; simp
    have hj := (h.ok.job t ht j hmem).1
    obtain ⟨x, dn, hst, hdn⟩ := stp_of (m := m) hj
    obtain ⟨hd, hid⟩ := tickAt_done (S := S) (m := m) (t := t) (j := j)
    rw [e] at ht' ho' ⊢
    rw [← hdn] at hd
    have hlp := left_pos hj
    have hx0 : dn = true → x.left = 0 := fun g => by
      have := (runK_ok (t := t) (h := m.hold) hj).2.2.1
      rw [← hst.run] at this
      exact this (hst.fin g)
    have hall := h.all t ht
    rw [hqt] at hall
    have hall' : (m.done t : Int) + 1 = A t := by simpa using hall
    have hqi := h.rel_ge hb ht hmem
    refine ⟨⟨ht', ho', fun a ha => ?_, fun a ha y hy => ?_, fun a ha g => ?_, ?_, ?_⟩, fun a ha hor => ?_, hst.now, fun g => ⟨t, ht, rfl, ?_⟩⟩
    · show ((tickAt S m t j []).1.done a : Int) + _ = _
      by_cases ea : a = t
      · subst ea
        rw [hst.here]
        rcases hd with ⟨d1, d2⟩ | ⟨d1, d2⟩
        · rw [d2, d1]; simp; omega
        · rw [d2, d1]; simp; omega
      · rw [hst.other a ea, hst.same a ea]; exact h.all a ha
    · by_cases ea : a = t
      · subst ea
        rw [hst.here] at hy
        split at hy
        · cases hy
        · have : y = x := by simpa using hy
          rw [this, hst.arr, hst.rel, hst.left]
          have := h.job a ha j hmem
          exact ⟨this.1, this.2.1, by omega⟩
      · rw [hst.other a ea] at hy
        exact h.job a ha y hy
    · rw [hst.last]; exact h.lastA a ha g
    · have u1 : ∀ a, a < S.n → a ≠ t → usedOf S (tickAt S m t j []).1 a = usedOf S m a := fun a _ hne => by
        unfold usedOf
        rw [hst.other a hne, hst.same a hne]
      have u2 : usedOf S (tickAt S m t j []).1 t = usedOf S m t + 1 := by
        unfold usedOf
        rw [hst.here, hqt]
        have hxl := hst.left
        rcases hd with ⟨d1, d2⟩ | ⟨d1, d2⟩
        · have := hx0 d1
          rw [d2, d1]
          show dmS S t * ((m.done t + 1 : Nat) : Int) + 0 = dmS S t * (m.done t : Int) + (dmS S t - j.left) + 1
          rw [Int.natCast_add, Int.mul_add]
          simp
          omega
        · rw [d2, d1]
          show dmS S t * (m.done t : Int) + (dmS S t - x.left) = dmS S t * (m.done t : Int) + (dmS S t - j.left) + 1
          omega
      have u3 := sumTo_bump (f := usedOf S m) (t := t) S.n ht u1 u2
      have := h.work
      show sumTo (usedOf S (tickAt S m t j []).1) S.n + (tickAt S m t j []).1.idle = (tickAt S m t j []).1.now
      rw [u3, hid, hst.now]
      omega
    · rw [hid]
      rcases h.idl with g | g
      · exact .inl g
      · exact .inl (by omega)
    · by_cases ea : a = t
      · subst ea
        rcases hor with g | g
        · exact absurd rfl g
        · rcases hd with ⟨d1, d2⟩ | ⟨d1, d2⟩
          · have g' : (tickAt S m a j []).2 = false := g
            rw [← hdn, d1] at g'; cases g'
          · exact d2
      · exact hst.same a ea
    · rcases hd with ⟨d1, d2⟩ | ⟨d1, d2⟩
      · exact d2
      · have g' : (tickAt S m t j []).2 = true := g
        rw [← hdn, d1] at g'; cases g'

/-- The first job of a task is done just at its bound. -/
theorem first_done {S : Sy} {W B : Nat → Int} {z : Int} {m : Mc} {A : Nat → Int} (hs : SyOk S) (hb : Bd S W B) (hn : m.now < 1000000000000000000) (h : Rn S W B z m A) (hA : ∀ j, j < S.n → A j = cnt (z - S.J j) (S.P j) (m.now + 1)) {t : Nat} (ht : t < S.n) (hy : (tick S m).2.1 = (t : Int)) (hd : (tick S m).2.2 = true) (h0 : m.done t = 0)
    (hB : B t = 0) (hleast : ∀ u, 1 ≤ u → u < W t → dmS S t + B t + inter S.P S.J (dmS S) (fun j => decide (S.Z t < S.Z j)) u S.n ≠ u) : m.now + 1 = z + W t := by
  obtain ⟨hr', hsame, hnow', hmore⟩ := rn_tick hs hb hn h
  obtain ⟨t2, ht2, e2, hdn⟩ := hmore hd
  have : t2 = t := by rw [hy] at e2; omega
  subst this
  rcases tick_cases S m with ⟨hc, e⟩ | ⟨t3, j, l, ht3, hqt, hrel, hc, e⟩
  · rw [e] at hd; cases hd
  · have : t3 = t2 := by rw [e] at hy; have : (t3 : Int) = (t2 : Int) := hy; omega
    subst this
    have hl0 : l = [] := by
      have := h.t.q.one t3 ht
      rw [hqt] at this
      simp only [List.length_cons] at this
      exact List.eq_nil_of_length_eq_zero (by omega)
    subst hl0
    have hmem : j ∈ m.q t3 := by rw [hqt]; simp
    have hj := (h.ok.job t3 ht j hmem).1
    obtain ⟨x, dn, hst, hdn'⟩ := stp_of (m := m) hj
    have hdt : dn = true := by rw [hdn']; rw [e] at hd; exact hd
    have hfin := hst.fin hdt
    rw [hst.run] at hfin
    have hA1 : A t3 = 1 := by
      have := h.all t3 ht
      rw [hqt, h0] at this
      simpa using this.symm
    -- not later
    have hup : m.now + 1 ≤ z + W t3 := by
      have h1 := h.t.young ht hmem
      have h2 := (h.job t3 ht j hmem).1
      rw [hA1] at h2
      simp at h2
      omega
    -- not earlier
    have hq3 : (tick S m).1.q t3 = [] := by rw [e]; show (tickAt S m t3 j []).1.q t3 = []; rw [hst.here, hdt]; rfl
    have hzi : z ≤ (tick S m).1.idle := by
      rw [e]
      show z ≤ (tickAt S m t3 j []).1.idle
      rw [(tickAt_done (S := S) (m := m) (t := t3) (j := j)).2]
      rcases h.idl with g | g
      · exact g
      · have := (h.rel_ge hb ht hmem).2; omega
    have hzn : z ≤ m.now := by have := (h.rel_ge hb ht hmem).2; omega
    have hge := level_ge (P := S.P) (J := S.J) (dm := dmS S) (Z := S.Z) (i := t3) (w := m.now + 1 - z) (f := usedOf S (tick S m).1) (own := dmS S t3) S.n
      (fun a ha hz => by
        have hne : a ≠ t3 := fun g => by subst g; omega
        have hqa : m.q a = [] := by
          cases hq : m.q a with
          | nil => rfl
          | cons y l =>
            exfalso
            have hym : y ∈ m.q a := by rw [hq]; simp
            have hyr : y.rel ≤ m.now := by
              have h1 := (h.job a ha y hym).2.1
              rw [h1]
              split
              · exact hzn
              · exact (h.ok.job a ha y hym).2.2.1
            have := done_top hs h.t.lk hj hqt hfin hc ha (ready_of h.t.q ha hym hyr)
            omega
        have hqa' : (tick S m).1.q a = [] := by rw [e]; show (tickAt S m t3 j []).1.q a = []; rw [hst.other a hne, hqa]
        have hda := hsame a ha (.inl (by rw [hy]; omega))
        have h1 := h.all a ha
        rw [hqa, hA a ha] at h1
        have hp := hb.per a ha
        have h2 := cnt_ceil (z := z) (J := S.J a) (P := S.P a) (x := m.now + 1 - z) hp.1 hp.2 (by omega)
        rw [show z + (m.now + 1 - z) = m.now + 1 by omega] at h2
        rw [h2] at h1
        unfold usedOf
        rw [hqa', hda]
        show ceilD (m.now + 1 - z + S.J a) (S.P a) * dmS S a ≤ dmS S a * (m.done a : Int) + 0
        have h3 : (m.done a : Int) = ceilD (m.now + 1 - z + S.J a) (S.P a) := by simpa using h1
        rw [h3, Int.mul_comm]
        omega)
      (fun a ha => used_nonneg hs hr' ha)
      (fun _ => by
        unfold usedOf
        rw [hq3, hdn, h0]
        show dmS S t3 ≤ dmS S t3 * ((0 + 1 : Nat) : Int) + 0
        simp)
    rw [if_pos ht] at hge
    have hw := hr'.work
    rw [hnow'] at hw
    have hdm := dm_pos hs ht
    have htimes : TimesOk S.P S.J (dmS S) S.n := fun a ha => by
      have h1 := hb.per a ha
      have h2 := h.ok.per a ha
      have h3 := dem_pos (hs.prog a ha)
      exact ⟨h1.1, h1.2, h2.2.2.2, by show 0 ≤ demTo _ _ _; omega, by show demTo _ _ _ ≤ _; omega⟩
    have hnn : ∀ u, 1 ≤ u → 0 ≤ inter S.P S.J (dmS S) (fun j => decide (S.Z t3 < S.Z j)) u S.n := fun u hu => by
      have h1 := (inter_bound (hi := fun j => decide (S.Z t3 < S.Z j)) htimes (w := 1) (by omega) (by omega) S.n (Nat.le_refl _)).1
      have h2 := inter_mono (hi := fun j => decide (S.Z t3 < S.Z j)) htimes hu S.n (Nat.le_refl _)
      omega
    have := least_le (f := fun u => dmS S t3 + B t3 + inter S.P S.J (dmS S) (fun j => decide (S.Z t3 < S.Z j)) u S.n) (w := W t3)
      (fun a b hab => by have := inter_mono (hi := fun j => decide (S.Z t3 < S.Z j)) htimes hab S.n (Nat.le_refl _); show dmS S t3 + B t3 + _ ≤ dmS S t3 + B t3 + _; omega)
      (fun u hu => by have := hnn u hu; show 1 ≤ dmS S t3 + B t3 + _; omega) hleast _ (m.now + 1 - z) (Nat.le_refl _) (by omega) (by show dmS S t3 + B t3 + _ ≤ _; omega)
    omega

end Go.Proofs.YtdabcflpcklfiaaGreat.Cad

/- A program's demands. -/
namespace Go.Proofs.YtdabcflpcklfiaaGreat
open Go.RowKit Cad

def compsTo (K N : Nat → Int) : Nat → List Int
  | 0 => []
  | k + 1 => if K k = 1 then compsTo K N k ++ [N k] else compsTo K N k

theorem comps_len (K N : Nat → Int) : ∀ k, (compsTo K N k).length = cmpTo K k
  | 0 => rfl
  | k + 1 => by
    unfold compsTo cmpTo
    split
    · rw [List.length_append, comps_len K N k]; rfl
    · exact comps_len K N k

theorem cmp_mono (K : Nat → Int) : ∀ d k, cmpTo K k ≤ cmpTo K (k + d)
  | 0, _ => Nat.le_refl _
  | d + 1, k => by
    have := cmp_mono K d k
    rw [← Nat.add_assoc, cmpTo]
    split <;> omega

theorem comps_at {K N : Nat → Int} : ∀ L k, k < L → K k = 1 → (compsTo K N L)[cmpTo K k]? = some (N k)
  | 0, k, h, _ => by omega
  | L + 1, k, h, h1 => by
    unfold compsTo
    by_cases e : k = L
    · subst e
      rw [if_pos h1, List.getElem?_append_right (by rw [comps_len]; exact Nat.le_refl _), comps_len]
      simp
    · have ih := comps_at (N := N) L k (by omega) h1
      split
      · rw [List.getElem?_append_left (List.getElem?_eq_some_iff.1 ih).1]
        exact ih
      · exact ih

theorem comps_full {K N : Nat → Int} {L : Nat} (h : ∀ k, k < L → K k = 1 → 1 ≤ N k) : Full K N L (fun q => (compsTo K N L).getD q 0) (compsTo K N L).length := by
  have ha : ∀ k, k < L → K k = 1 → (compsTo K N L).getD (cmpTo K k) 0 = N k := fun k hk h1 => by
    have := comps_at (N := N) L k hk h1
    simp [List.getD, this]
  refine ⟨⟨fun k hk h1 => ⟨?_, ?_, ?_⟩, (comps_len K N L).symm⟩, ha⟩
  · exact (List.getElem?_eq_some_iff.1 (comps_at (N := N) L k hk h1)).1
  · show 1 ≤ (compsTo K N L).getD (cmpTo K k) 0
    rw [ha k hk h1]; exact h k hk h1
  · show (compsTo K N L).getD (cmpTo K k) 0 ≤ N k
    rw [ha k hk h1]; exact Int.le_refl _

set_option maxRecDepth 100000 in
set_option maxHeartbeats 1000000 in
theorem computes_any (b off L cap : Nat) (K N : Nat → Int) (w : World) (hL : L ≤ 16) (hb : b < w.heap.size) (hS : StepsAt w b off L K N) :
    Calls Tryz.prog 51 #[.slice (some ⟨b, off, none⟩) L cap] w fun e w' => ∃ v, e = .returned v ∧ w'.ownsRow w.heap.size 3 1 v (compsTo K N L).length ((compsTo K N L).map (Value.int .i64)) ∧ Below w.heap.size w w' := by
  obtain ⟨i0, hi, hz0, hz1, hz2⟩ := info_parts Tryz.info3
  have HS : Hid (StepsAt w b off L K N) := hS
  clear hS
  go_enter Tryz.func51, Tryz.ntmps51
  go_wp2
  go_loopw [3, 4] (fun v i wr => ∃ k : Nat, k ≤ L ∧ i = .int .i64 k ∧ wr.ownsRow w.heap.size 3 1 v (compsTo K N k).length ((compsTo K N k).map (Value.int .i64)) ∧ Below w.heap.size w wr) (fun _ i _ => L - (intOf i).toNat)
  case atStart => exact ⟨0, Nat.zero_le _, rfl, World.ownsRow_nil _ _ _ _, Below.refl _ _⟩
  case round =>
    obtain ⟨k, hk, rfl, hown, hbel⟩ := hrel
    have hlen : (compsTo K N k).length ≤ 16 := by rw [comps_len]; have := cmpTo_le K k; omega
    have hsz := hbel.size
    obtain ⟨ao, hcap, rfl, hle, hhc⟩ := own_shape hown
    clear hhc
    by_cases hlt : k < L
    · have y0 := (hbel.cell (p := ⟨b, off + k * 2, none⟩) hb).trans (HS.out k hlt).1
      have y1 := (hbel.cell (p := ⟨b, off + k * 2 + 1, none⟩) hb).trans (HS.out k hlt).2
      by_cases h1 : K k = 1
      · have bd : (K k == 1) = true := by simp [h1]
        have he : compsTo K N (k + 1) = compsTo K N k ++ [N k] := by rw [compsTo, if_pos h1]
        have HE : Hid (compsTo K N (k + 1) = compsTo K N k ++ [N k]) := he
        clear he h1
        go_wp2_with (at_builtin; refine wpList_append_own _ rfl _ _ 23 rfl w.heap.size 3 i0 (.int .i64 0) 1 8 Tryz.underlying23 hi hz0 hz1 hz2 rfl (by decide) _ _ _ rfl (hown.alloc _) ⟨wr.heap.size, 0, none⟩ 1 1 [.int .i64 (N k)] rfl rfl ?c1 ?c2 ?c3 ?c4 ?c5 ?_)
        case c1 => exact cell_one_at _ _ (by simp) _ _
        case c2 => exact one_oneCell rfl
        case c3 => unfold maxLen; omega
        case c4 => omega
        case c5 => simp; omega
        · intro v' w1 hown' hgrow _
          have hb1 : Below w.heap.size w w1 := (hbel.alloc hbel.size _).grown hgrow (by simp; omega) (fun k hk => (hown.lt k hk).1)
          have hown2 : w1.ownsRow w.heap.size 3 1 v' (compsTo K N (k + 1)).length ((compsTo K N (k + 1)).map (Value.int .i64)) := by rw [HE.out]; simpa using hown'
          clear hown' hgrow
          go_wp2
          go_roundw
          case rel => exact ⟨k + 1, by omega, by go_num, hown2, hb1⟩
          case measure => simp [intOf]; omega
      · have bd : (K k == 1) = false := by simp [h1]
        have he : compsTo K N (k + 1) = compsTo K N k := by rw [compsTo, if_neg h1]
        have HE : Hid (compsTo K N (k + 1) = compsTo K N k) := he
        clear he
        go_wp2
        go_roundw
        case rel => exact ⟨k + 1, by omega, by go_num, by rw [HE.out]; exact hown, hbel⟩
        case measure => simp [intOf]; omega
    · obtain rfl : k = L := by omega
      go_wp2
      go_ret
      exact ⟨_, rfl, hown, hbel⟩

end Go.Proofs.YtdabcflpcklfiaaGreat

/- The kernel beside the law's own lists. -/
namespace Go.Proofs.YtdabcflpcklfiaaGreat
open Go.RowKit Cad

/-- The kernel, the bounds in g, and a list of numbers in fb. -/
structure RS (B g fb n : Nat) (R F : Nat → Int) (kb : Nat) (S : Sy) (m : Mc) (wr : World) : Prop where
  k : KSt (fun q => q < B ∨ q = g ∨ q = fb) wr kb S m
  rg : wr.rowIs g 3 n (fun q => .int .i64 (R q))
  rf : wr.rowIs fb 3 n (fun q => .int .i64 (F q))
  hg : B ≤ g
  hfb : B ≤ fb
  hne : g ≠ fb
  hB : B ≤ wr.heap.size

theorem RS.own {B g fb n kb : Nat} {R F : Nat → Int} {S : Sy} {m : Mc} {wr : World} (h : RS B g fb n R F kb S m wr) : ∀ q, (q < B ∨ q = g ∨ q = fb) → q < wr.heap.size := by
  rintro q (h1 | h1 | h1)
  · have := h.hB; omega
  · rw [h1]; exact h.rg.lt
  · rw [h1]; exact h.rf.lt

theorem RS.below {B g fb n kb : Nat} {R F : Nat → Int} {S : Sy} {m : Mc} {wr w' : World} (h : RS B g fb n R F kb S m wr) (hb : Below wr.heap.size wr w') : RS B g fb n R F kb S m w' :=
  ⟨h.k.below hb, h.rg.of_block (hb.block _ h.rg.lt), h.rf.of_block (hb.block _ h.rf.lt), h.hg, h.hfb, h.hne, by have := hb.size; have := h.hB; omega⟩

theorem RS.fr {B g fb n kb : Nat} {R F : Nat → Int} {S : Sy} {m m' : Mc} {wr w' : World} (h : RS B g fb n R F kb S m wr) (hk : KSt (fun q => q < B ∨ q = g ∨ q = fb) w' kb S m') (hf : Fr (fun q => ¬ (q < B ∨ q = g ∨ q = fb)) wr w') : RS B g fb n R F kb S m' w' ∧ Below B wr w' :=
  ⟨⟨hk, hf.row h.rg (fun e => e (.inr (.inl rfl))), hf.row h.rf (fun e => e (.inr (.inr rfl))), h.hg, h.hfb, h.hne, by have := hf.size; have := h.hB; omega⟩, hf.below h.hB (fun i hi => by
    rcases Nat.lt_or_ge i B with g | g
    · exact absurd (.inl g) hi
    · exact g)⟩

theorem rs_tick {B g fb n kb : Nat} {R F : Nat → Int} {S : Sy} {m : Mc} {wr : World} (h : RS B g fb n R F kb S m wr) (hnow : m.now < 1000000000000000000) :
    Calls Tryz.prog 28 #[.pointer (some ⟨kb, 0, none⟩)] wr fun e w' => e = .returned (.tuple #[.int .i64 (tick S m).2.1, .bool (tick S m).2.2]) ∧ RS B g fb n R F kb S (tick S m).1 w' ∧ Below B wr w' :=
  (kst_tick h.own h.k hnow).mono (fun _ _ hh => ⟨hh.1, h.fr hh.2.1 hh.2.2⟩)

/-- A job with demands in a list of one's own arrives. -/
theorem rs_arrive {B g fb n kb : Nat} {R F : Nat → Int} {S : Sy} {m : Mc} {wr : World} (h : RS B g fb n R F kb S m wr) (har : m.arrd < 1000000000000000000) (x jit : Int) (l : List Int) (v : Value) (base : Nat) (hv : wr.ownsRow base 3 1 v l.length (l.map (Value.int .i64))) (hl : l.length ≤ 16) :
    Calls Tryz.prog 45 #[.pointer (some ⟨kb, 0, none⟩), .int .i64 x, .int .i64 jit, v] wr fun e w' => e = .returned (.int .i64 (arrive S m x jit (fun q => l.getD q 0) l.length).2) ∧ RS B g fb n R F kb S (arrive S m x jit (fun q => l.getD q 0) l.length).1 w' ∧ Below B wr w' := by
  obtain ⟨ao, cap, rfl, hle, hc⟩ := own_shape hv
  by_cases h0 : 1 ≤ l.length
  · obtain ⟨gq, rfl, _, hgl, _⟩ := hc 0 (by omega)
    refine (kst_arrive (own := fun q => q < B ∨ q = g ∨ q = fb) x jit gq 0 l.length cap (fun q => l.getD q 0) (some ⟨gq, 0, none⟩) h.own h.k har (by omega) (fun _ => ⟨rfl, hgl, fun i hi => ?_⟩)).mono (fun _ _ hh => ⟨hh.1, h.fr hh.2.1 hh.2.2⟩)
    obtain ⟨g', e, _, _, hcell⟩ := hc i hi
    cases e
    rw [Nat.zero_add]
    exact hcell
  · exact (kst_arrive (own := fun q => q < B ∨ q = g ∨ q = fb) x jit 0 0 l.length cap (fun q => l.getD q 0) ao h.own h.k har (by omega) (fun g => absurd g h0)).mono (fun _ _ hh => ⟨hh.1, h.fr hh.2.1 hh.2.2⟩)

/-- The law writes into its own list. -/
theorem RS.set {B g fb n kb : Nat} {R F : Nat → Int} {S : Sy} {m : Mc} {wr : World} (h : RS B g fb n R F kb S m wr) (i : Nat) (x : Int) : RS B g fb n R (upd F i x) kb S m (wr.setCell ⟨fb, i, none⟩ (.int .i64 x)) ∧ Below B wr (wr.setCell ⟨fb, i, none⟩ (.int .i64 x)) := by
  have hfr : Fr (fun q => q = fb) wr (wr.setCell ⟨fb, i, none⟩ (.int .i64 x)) := (Fr.refl (fun q => q = fb) wr).setCell (a := ⟨fb, i, none⟩) (.inl rfl) _
  refine ⟨⟨h.k.other (hfr.mono (fun q hq => .inr (.inr hq))), hfr.row h.rg h.hne, ?_, h.hg, h.hfb, h.hne, by have := hfr.size; have := h.hB; omega⟩, hfr.below h.hB (fun q hq => by rw [hq]; exact h.hfb)⟩
  exact (h.rf.set i (.int .i64 x)).congr (fun q hq => by
    show (if q = i then Value.int .i64 x else .int .i64 (F q)) = .int .i64 (upd F i x q)
    unfold upd
    by_cases e : q = i
    · rw [if_pos e, if_pos e]
    · rw [if_neg e, if_neg e])

end Go.Proofs.YtdabcflpcklfiaaGreat

/- The run that Reached makes, in numbers. -/
namespace Go.Proofs.YtdabcflpcklfiaaGreat
open Go.RowKit Cad

def topTo (f : Nat → Int) : Nat → Int
  | 0 => 0
  | k + 1 => if topTo f k < f k then f k else topTo f k

theorem topTo_spec (f : Nat → Int) (b : Int) (hb : 0 ≤ b) : ∀ k, (∀ j, j < k → f j ≤ b) → 0 ≤ topTo f k ∧ topTo f k ≤ b ∧ ∀ j, j < k → f j ≤ topTo f k
  | 0, _ => ⟨Int.le_refl _, hb, fun j hj => by omega⟩
  | k + 1, h => by
    obtain ⟨h1, h2, h3⟩ := topTo_spec f b hb k (fun j hj => h j (by omega))
    have hk := h k (by omega)
    unfold topTo
    split
    · refine ⟨by omega, hk, fun j hj => ?_⟩
      by_cases e : j = k
      · subst e; omega
      · have := h3 j (by omega); omega
    · refine ⟨h1, h2, fun j hj => ?_⟩
      by_cases e : j = k
      · subst e; omega
      · exact h3 j (by omega)

/-- How many have arrived when at now the first i tasks have had their turn. -/
def Amid (S : Sy) (z now : Int) (i j : Nat) : Int := if j < i then cnt (z - S.J j) (S.P j) (now + 1) else cnt (z - S.J j) (S.P j) now

theorem amid_end {S : Sy} {z now : Int} {A : Nat → Int} (h : ∀ j, A j = Amid S z now S.n j) : ∀ j, j < S.n → A j = Amid S z (now + 1) 0 j := fun j hj => by
  rw [h j]
  unfold Amid
  rw [if_pos hj, if_neg (by omega)]

/-- The law's run. -/
structure Rch (S : Sy) (W B : Nat → Int) (z now : Int) (i : Nat) (m : Mc) (F : Nat → Int) : Prop where
  rn : ∃ A, Rn S W B z m A ∧ ∀ j, j < S.n → A j = Amid S z now i j
  time : m.now = now
  arrd : m.arrd ≤ 8 * now + (i : Int)
  first : ∀ j, j < S.n → F j = if m.done j = 0 then 0 else z + W j

theorem rn_other {S : Sy} {W B : Nat → Int} {z : Int} {m : Mc} {A A' : Nat → Int} (h : Rn S W B z m A) (he : ∀ j, j < S.n → A' j = A j) : Rn S W B z m A' :=
  ⟨h.t, h.ok, fun j hj => by rw [he j hj]; exact h.all j hj, fun j hj => by rw [he j hj]; exact h.job j hj, fun j hj => by rw [he j hj]; exact h.lastA j hj, h.work, h.idl⟩

theorem Rch.rn' {S : Sy} {W B : Nat → Int} {z now : Int} {i : Nat} {m : Mc} {F : Nat → Int} (h : Rch S W B z now i m F) : Rn S W B z m (Amid S z now i) := by
  obtain ⟨A, h1, h2⟩ := h.rn
  exact rn_other h1 (fun j hj => (h2 j hj).symm)

theorem rch_arrive {S : Sy} {W B : Nat → Int} {z now : Int} {i : Nat} {m : Mc} {F : Nat → Int} (hb : Bd S W B) (h : Rch S W B z now i m F) (hi : i < S.n) (hn : 0 ≤ now ∧ now ≤ 1000000) {jit : Int} {D : Nat → Int} {d : Nat} (hf : Full (S.K i) (S.N i) (S.L i) D d)
    (hc : (now = z - S.J i ∧ jit = S.J i) ∨ (z - S.J i < now ∧ (now - (z - S.J i)) % S.P i = 0 ∧ jit = 0)) :
    (arrive S m (i : Int) jit D d).2 = 0 ∧ Rch S W B z now (i + 1) (arrive S m (i : Int) jit D d).1 F := by
  have hp := hb.per i hi
  have hai : Amid S z now i i = cnt (z - S.J i) (S.P i) now := by unfold Amid; rw [if_neg (Nat.lt_irrefl _)]
  have hr := h.rn'
  have hnow := h.time
  have key : cnt (z - S.J i) (S.P i) (now + 1) = cnt (z - S.J i) (S.P i) now + 1 ∧ ((Amid S z now i i = 0 ∧ m.now = z - S.J i ∧ jit = S.J i) ∨ (1 ≤ Amid S z now i i ∧ m.now = z - S.J i + Amid S z now i i * S.P i ∧ jit = 0)) := by
    rw [hai]
    rcases hc with ⟨c1, c2⟩ | ⟨c1, c2, c3⟩
    · obtain ⟨e1, e2⟩ := cnt_first (P := S.P i) hp.1 c1
      exact ⟨by rw [e2, e1]; rfl, .inl ⟨e1, by omega, c2⟩⟩
    · obtain ⟨e1, e2, e3⟩ := cnt_next (f := z - S.J i) (P := S.P i) hp.1 c1 c2
      exact ⟨e3, .inr ⟨e2, by omega, c3⟩⟩
  obtain ⟨href, hadd⟩ := rn_added hb hr hi hf key.2
  have ho := ok_added hr.ok (by have := h.arrd; have := hr.ok.eight; omega) hi href
  have e : arrive S m (i : Int) jit D d = (added S m i jit D, 0) := by
    unfold arrive
    rw [if_neg (by omega)]
    simp only [Int.toNat_natCast]
    rw [if_neg (by simp [href])]
  rw [e]
  refine ⟨rfl, ⟨⟨_, hadd ho, fun j hj => ?_⟩, hnow, ?_, h.first⟩⟩
  · by_cases ej : j = i
    · subst ej
      rw [upd_same, hai]
      unfold Amid
      rw [if_pos (by omega), key.1]
    · rw [upd_other _ _ ej]
      unfold Amid
      by_cases c : j < i
      · rw [if_pos c, if_pos (by omega)]
      · rw [if_neg c, if_neg (by omega)]
  · have := h.arrd
    show m.arrd + 1 ≤ 8 * now + ((i + 1 : Nat) : Int)
    omega

theorem rch_skip {S : Sy} {W B : Nat → Int} {z now : Int} {i : Nat} {m : Mc} {F : Nat → Int} (hb : Bd S W B) (h : Rch S W B z now i m F) (hi : i < S.n) (h1 : now ≠ z - S.J i) (h2 : ¬ (z - S.J i < now ∧ (now - (z - S.J i)) % S.P i = 0)) : Rch S W B z now (i + 1) m F := by
  have hp := hb.per i hi
  refine ⟨⟨_, h.rn', fun j hj => ?_⟩, h.time, by have := h.arrd; omega, h.first⟩
  unfold Amid
  by_cases ej : j = i
  · subst ej
    rw [if_neg (Nat.lt_irrefl _), if_pos (by omega), cnt_same hp.1 h1 h2]
  · by_cases c : j < i
    · rw [if_pos c, if_pos (by omega)]
    · rw [if_neg c, if_neg (by omega)]

/-- A tick of the run: what the law's list says behind it. -/
theorem rch_tick {S : Sy} {W B : Nat → Int} {z now : Int} {m : Mc} {F : Nat → Int} (hs : SyOk S) (hb : Bd S W B) (h : Rch S W B z now S.n m F) (hn : 0 ≤ now ∧ now ≤ 1000000) (hz : 0 ≤ z) (hB : ∀ t, t < S.n → B t = 0)
    (hleast : ∀ t, t < S.n → ∀ u, 1 ≤ u → u < W t → dmS S t + B t + inter S.P S.J (dmS S) (fun j => decide (S.Z t < S.Z j)) u S.n ≠ u) :
    ((tick S m).2.2 = false → Rch S W B z (now + 1) 0 (tick S m).1 F) ∧
    ((tick S m).2.2 = true → ∃ t, t < S.n ∧ (tick S m).2.1 = (t : Int) ∧ (F t ≠ 0 → Rch S W B z (now + 1) 0 (tick S m).1 F) ∧ (F t = 0 → Rch S W B z (now + 1) 0 (tick S m).1 (upd F t (now + 1)))) := by
  have hr := h.rn'
  have hnow := h.time
  obtain ⟨hr', hsame, hnow', hmore⟩ := rn_tick hs hb (by omega) hr
  have harr : (tick S m).1.arrd = m.arrd := by
    rcases tick_cases S m with ⟨_, e⟩ | ⟨t, j, r, _, _, _, _, e⟩
    · rw [e]
    · rw [e]; unfold tickAt; simp only []; split <;> rfl
  have hn8 := hr.ok.eight
  have base : ∀ F', (∀ j, j < S.n → F' j = if (tick S m).1.done j = 0 then 0 else z + W j) → Rch S W B z (now + 1) 0 (tick S m).1 F' := fun F' hF => by
    refine ⟨⟨_, hr', amid_end (fun j => rfl)⟩, by omega, ?_, hF⟩
    have := h.arrd
    rw [harr]
    omega
  refine ⟨fun hd => base F (fun j hj => by rw [hsame j hj (.inr hd)]; exact h.first j hj), fun hd => ?_⟩
  obtain ⟨t, ht, e1, e2⟩ := hmore hd
  have hoth : ∀ j, j < S.n → j ≠ t → (tick S m).1.done j = m.done j := fun j hj hne => hsame j hj (.inl (by rw [e1]; omega))
  have hft := h.first t ht
  have hwp := hb.pos t ht
  refine ⟨t, ht, e1, fun h0 => base F (fun j hj => ?_), fun h0 => base _ (fun j hj => ?_)⟩
  · by_cases ej : j = t
    · subst ej
      rw [e2, if_neg (by omega), hft, if_neg (fun g => h0 (by rw [hft, if_pos g]))]
    · rw [hoth j hj ej]; exact h.first j hj
  · by_cases ej : j = t
    · subst ej
      have hd0 : m.done j = 0 := by
        by_cases c : m.done j = 0
        · exact c
        · rw [hft, if_neg c] at h0; omega
      rw [upd_same, e2, if_neg (by omega)]
      have := first_done hs hb (by omega) hr (fun a ha => by unfold Amid; rw [if_pos ha, hnow]) hj e1 hd hd0 (hB j hj) (hleast j hj)
      omega
    · rw [upd_other _ _ ej, hoth j hj ej]; exact h.first j hj

theorem rch_start {S : Sy} {W B : Nat → Int} {z : Int} (hs : SyOk S) (hb : Bd S W B) (ho : Ok S Cad.start) (hz : ∀ j, j < S.n → S.J j ≤ z) : Rch S W B z 0 0 Cad.start (fun _ => 0) := by
  refine ⟨⟨_, rn_start hs hb ho, fun j hj => ?_⟩, rfl, by show (0 : Int) ≤ _; omega, fun j _ => ?_⟩
  · unfold Amid cnt
    rw [if_neg (by omega), if_pos (by have := hz j hj; omega)]
  · simp [Cad.start]

/-- When the run is at its end each first job has been done at its bound. -/
theorem rch_end {S : Sy} {W B : Nat → Int} {z now : Int} {m : Mc} {F : Nat → Int} (hb : Bd S W B) (h : Rch S W B z now 0 m F) {j : Nat} (hj : j < S.n) (he : z + W j ≤ now) : F j = z + W j := by
  have hr := h.rn'
  have hnow := h.time
  rw [h.first j hj]
  by_cases c : m.done j = 0
  · exfalso
    have h1 := hr.all j hj
    have hp := hb.per j hj
    have hw := hb.pos j hj
    have hA : 1 ≤ Amid S z now 0 j := by
      unfold Amid cnt
      rw [if_neg (by omega), if_neg (by omega)]
      have := Int.ediv_nonneg (a := now - 1 - (z - S.J j)) (b := S.P j) (by omega) (by omega)
      omega
    have hone := hr.t.q.one j hj
    rw [c] at h1
    cases hq : m.q j with
    | nil => rw [hq] at h1; simp at h1; omega
    | cons x l =>
      have hx : x ∈ m.q j := by rw [hq]; simp
      have hA1 : Amid S z now 0 j = 1 := by omega
      have h2 := (hr.job j hj x hx).1
      rw [hA1] at h2
      simp at h2
      have h3 := hr.t.young hj hx
      omega
  · rw [if_neg c]

end Go.Proofs.YtdabcflpcklfiaaGreat
