import Derived.Test.YtdabcflpcklfiaaMach
/- Plain mathematics: what holds of the machine holds behind a tick, and behind an arrival. -/
namespace Go.Proofs.Ytdabcflpcklfiaa.Cad

theorem dem_diff {K N : Nat → Int} {a : Nat} : ∀ d, (∀ i, a ≤ i → i < a + d → K i = 1 → 1 ≤ N i ∧ N i ≤ 100) → 0 ≤ demTo K N (a + d) - demTo K N a ∧ demTo K N (a + d) - demTo K N a ≤ 100 * d
  | 0, _ => by simp
  | d + 1, h => by
    have ih := dem_diff d (fun i h1 h2 => h i h1 (by omega))
    rw [← Nat.add_assoc, demTo]
    have hk := h (a + d) (by omega) (by omega)
    by_cases e : K (a + d) = 1
    · have := hk e
      rw [if_pos e]
      omega
    · rw [if_neg e]
      omega

theorem dem_flat {K N : Nat → Int} {a : Nat} : ∀ d, (∀ i, a ≤ i → i < a + d → K i ≠ 1) → demTo K N (a + d) = demTo K N a
  | 0, _ => rfl
  | d + 1, h => by
    rw [← Nat.add_assoc, demTo, if_neg (h (a + d) (by omega) (by omega)), Int.add_zero, dem_flat d (fun i h1 h2 => h i h1 (by omega))]

theorem dem_upd {K N : Nat → Int} {k : Nat} {x : Int} (hk : K k = 1) : ∀ i, demTo K (upd N k x) i = demTo K N i + (if k < i then x - N k else 0)
  | 0 => by simp [demTo]
  | i + 1 => by
    rw [demTo, demTo, dem_upd hk i]
    by_cases e : i = k
    · subst e
      rw [if_pos hk, if_pos hk, upd_same, if_neg (Nat.lt_irrefl _), if_pos (Nat.lt_succ_self _)]
      omega
    · rw [upd_other _ _ e]
      by_cases c : k < i
      · rw [if_pos c, if_pos (show k < i + 1 by omega)]
        omega
      · rw [if_neg c, if_neg (show ¬ k < i + 1 by omega)]
        omega

theorem JbOk.left_range {K : Nat → Int} {L : Nat} {j : Jb} (h : JbOk K L j) (hL : L ≤ 16) : 0 ≤ j.left ∧ j.left ≤ 1600 := by
  obtain ⟨d, hd⟩ : ∃ d, L = j.p + d := ⟨L - j.p, by have := h.lt; omega⟩
  have := dem_diff (K := K) (N := j.N) (a := j.p) d (fun i h1 h2 => h.comp i h1 (by omega))
  rw [h.left, hd]
  omega

theorem skipLt {K : Nat → Int} {L : Nat} {j : Jb} (h : JbOk K L j) : skip K 2 L j.p < L ∧ K (skip K 2 L j.p) = 1 := by
  obtain ⟨h1, h2, h3, h4⟩ := skip_spec K 2 (L := L) (p := j.p) (by have := h.lt; omega)
  have hlt : skip K 2 L j.p < L := by
    rcases Nat.lt_or_ge (skip K 2 L j.p) L with hl | hl
    · exact hl
    · have := h3 (L - 1) (by have := h.lt; omega) (by have := h.lt; omega)
      rw [h.last] at this
      omega
  refine ⟨hlt, ?_⟩
  rcases h.kind _ hlt with hk | hk | hk
  · exact hk
  · exact absurd hk (h4 hlt)
  · exfalso
    rcases Nat.lt_or_ge j.p (skip K 2 L j.p) with hl | hl
    · obtain ⟨q, hq⟩ : ∃ q, skip K 2 L j.p = q + 1 := ⟨skip K 2 L j.p - 1, by omega⟩
      rw [hq] at hk hlt
      exact h.behind q hlt (h3 q (by omega) (by omega)) hk
    · have e : skip K 2 L j.p = j.p := by omega
      rw [e] at hk
      exact h.here hk

/-- Behind its tick a job is as one must be, or done. -/
theorem runK_ok {K : Nat → Int} {L t : Nat} {h : Nat → Int} {j : Jb} (hj : JbOk K L j) : (runK K L t h j).2.p ≤ L ∧ ((runK K L t h j).2.p < L → JbOk K L (runK K L t h j).2) ∧ ((runK K L t h j).2.p = L → (runK K L t h j).2.left = 0) ∧
    (runK K L t h j).2.arr = j.arr ∧ (runK K L t h j).2.rel = j.rel ∧ (runK K L t h j).2.ord = j.ord ∧ (runK K L t h j).2.left = j.left - 1 := by
  obtain ⟨p1, hp1⟩ : ∃ p1, p1 = skip K 2 L j.p := ⟨_, rfl⟩
  have hsp := skip_spec K 2 (L := L) (p := j.p) (by have := hj.lt; omega)
  have hsl := skipLt hj
  rw [← hp1] at hsp hsl
  have hn := hj.comp p1 hsp.1 hsl.1 hsl.2
  have hflat : demTo K j.N p1 = demTo K j.N j.p := by
    obtain ⟨d, hd⟩ : ∃ d, p1 = j.p + d := ⟨p1 - j.p, by omega⟩
    rw [hd]
    exact dem_flat d (fun i h1 h2 => by rw [hsp.2.2.1 i h1 (by omega)]; decide)
  have hstep : demTo K j.N (p1 + 1) = demTo K j.N p1 + j.N p1 := by rw [demTo, if_pos hsl.2]
  unfold runK
  simp only []
  rw [← hp1]
  by_cases hx : 0 < j.N p1 - 1
  · rw [if_pos hx]
    refine ⟨Nat.le_of_lt hsl.1, fun _ => ⟨hsl.1, hj.last, by show K p1 ≠ 3; omega, hj.kind, fun i h1 h2 h3 => ?_, fun i h1 h2 h3 => ?_, hj.behind, ?_⟩, fun e => by have e' : p1 = L := e; omega, rfl, rfl, rfl, rfl⟩
    · show 1 ≤ upd j.N p1 (j.N p1 - 1) i ∧ upd j.N p1 (j.N p1 - 1) i ≤ 100
      by_cases e : i = p1
      · rw [e, upd_same]; omega
      · rw [upd_other _ _ e]; exact hj.comp i (by have h1' : p1 ≤ i := h1; omega) h2 h3
    · show 0 ≤ upd j.N p1 (j.N p1 - 1) i ∧ upd j.N p1 (j.N p1 - 1) i ≤ 7
      rw [upd_other _ _ (fun e => h3 (by rw [e]; exact hsl.2))]
      exact hj.res i (by have h1' : p1 ≤ i := h1; omega) h2 h3
    · show j.left - 1 = demTo K (upd j.N p1 (j.N p1 - 1)) L - demTo K (upd j.N p1 (j.N p1 - 1)) p1
      rw [dem_upd hsl.2, dem_upd hsl.2, if_pos hsl.1, if_neg (Nat.lt_irrefl _), hflat, hj.left]
      omega
  · rw [if_neg hx]
    obtain ⟨p2, hp2⟩ : ∃ p2, p2 = skip K 3 L (p1 + 1) := ⟨_, rfl⟩
    have hs2 := skip_spec K 3 (L := L) (p := p1 + 1) (by omega)
    rw [← hp2] at hs2 ⊢
    have hflat2 : demTo K j.N p2 = demTo K j.N (p1 + 1) := by
      obtain ⟨d, hd⟩ : ∃ d, p2 = p1 + 1 + d := ⟨p2 - (p1 + 1), by omega⟩
      rw [hd]
      exact dem_flat d (fun i h1 h2 => by rw [hs2.2.2.1 i h1 (by omega)]; decide)
    have hleft : j.left - 1 = demTo K (upd j.N p1 (j.N p1 - 1)) L - demTo K (upd j.N p1 (j.N p1 - 1)) p2 := by
      rw [dem_upd hsl.2, dem_upd hsl.2, if_pos hsl.1, if_pos (by omega), hflat2, hstep, hflat, hj.left]
      omega
    refine ⟨hs2.2.1, fun hlt => ⟨hlt, hj.last, hs2.2.2.2 hlt, hj.kind, fun i h1 h2 h3 => ?_, fun i h1 h2 h3 => ?_, hj.behind, hleft⟩, fun e => ?_, rfl, rfl, rfl, rfl⟩
    · show 1 ≤ upd j.N p1 (j.N p1 - 1) i ∧ upd j.N p1 (j.N p1 - 1) i ≤ 100
      have h1' : p2 ≤ i := h1
      rw [upd_other _ _ (by omega)]; exact hj.comp i (by omega) h2 h3
    · show 0 ≤ upd j.N p1 (j.N p1 - 1) i ∧ upd j.N p1 (j.N p1 - 1) i ≤ 7
      have h1' : p2 ≤ i := h1
      rw [upd_other _ _ (by omega)]; exact hj.res i (by omega) h2 h3
    · have e' : p2 = L := e
      show j.left - 1 = 0
      rw [hleft, e']
      omega

theorem ready_cons {m : Mc} {t : Nat} (h : readyB m t = true) : ∃ j r, m.q t = j :: r ∧ j.rel ≤ m.now := by
  unfold readyB at h
  split at h
  · cases h
  · rename_i j r e
    exact ⟨j, r, e, by simpa using h⟩

/-- How a tick comes out. -/
theorem tick_cases (S : Sy) (m : Mc) : ((chTo S m S.n).1 = -1 ∧ tick S m = ({ m with now := m.now + 1, idle := m.idle + 1 }, -1, false)) ∨
    ∃ t j r, t < S.n ∧ m.q t = j :: r ∧ j.rel ≤ m.now ∧ (chTo S m S.n).1 = (t : Int) ∧ tick S m = ((tickAt S m t j r).1, (t : Int), (tickAt S m t j r).2) := by
  rcases chTo_range S m S.n with ⟨h1, h2⟩ | ⟨t, ht, h1, h2, h3⟩
  · refine .inl ⟨h1, ?_⟩
    unfold tick
    simp only [h1]
    split
    · rfl
    · rw [if_pos (by decide)]
  · obtain ⟨j, r, hq, hr⟩ := ready_cons h2
    refine .inr ⟨t, j, r, ht, hq, hr, h1, ?_⟩
    unfold tick
    simp only [h1, Int.toNat_natCast, hq]
    rw [if_neg (by omega)]

theorem Ok.later {S : Sy} {m : Mc} (h : Ok S m) (hn : m.now < 1000000000000000000) : Ok S { m with now := m.now + 1 } := by
  refine { h with now0 := ?_, now1 := ?_, idle := ?_, lastn := ?_, job := ?_ }
  · have := h.now0; show 0 ≤ m.now + 1; omega
  · show m.now + 1 ≤ _; omega
  · have := h.idle; show 0 ≤ m.idle ∧ m.idle ≤ m.now + 1; omega
  · intro t ht
    have := h.lastn t ht; show 0 ≤ m.last t ∧ m.last t ≤ m.now + 1; omega
  · intro t ht j hj
    obtain ⟨h1, h2, h3, h4, h5, h6, h7⟩ := h.job t ht j hj
    exact ⟨h1, h2, by show j.arr ≤ m.now + 1; omega, h4, by show j.rel ≤ m.now + 1 + 10000; omega, h6, h7⟩

theorem ok_tickAt {S : Sy} {m : Mc} {t : Nat} {j : Jb} {r : List Jb} (h : Ok S m) (hn : m.now < 1000000000000000000) (ht : t < S.n) (hq : m.q t = j :: r) : Ok S (tickAt S m t j r).1 := by
  have hm := h.later hn
  have hj := (h.job t ht j (by rw [hq]; simp)).1
  have hjr := (hm.job t ht j (by show j ∈ m.q t; rw [hq]; simp)).2
  obtain ⟨k1, k2, k3, k4, k5, k6, k7⟩ := runK_ok (t := t) (h := m.hold) hj
  unfold tickAt
  simp only []
  by_cases hp : (runJ S t m.hold j).2.p < S.L t
  · rw [if_pos hp]
    have hlen : ∀ t', (upd m.q t ((runJ S t m.hold j).2 :: r) t').length = (m.q t').length := fun t' => by
      by_cases e : t' = t
      · rw [e, upd_same, hq]; simp
      · rw [upd_other _ _ e]
    refine { hm with few := ?_, many := ?_, job := ?_ }
    · intro t' ht'
      show (upd m.q t _ t').length ≤ 8
      rw [hlen]; exact h.few t' ht'
    · intro t' ht'
      show (m.done t' : Int) + ((upd m.q t _ t').length : Int) ≤ _
      rw [hlen]; exact h.many t' ht'
    · intro t' ht' jj hjj
      have hjj' : jj ∈ upd m.q t ((runJ S t m.hold j).2 :: r) t' := hjj
      by_cases e : t' = t
      · subst e
        rw [upd_same] at hjj'
        rcases List.mem_cons.1 hjj' with rfl | hmem
        · refine ⟨k2 hp, ?_⟩
          show 0 ≤ (runK _ _ _ _ _).2.arr ∧ (runK _ _ _ _ _).2.arr ≤ _ ∧ 0 ≤ (runK _ _ _ _ _).2.rel ∧ (runK _ _ _ _ _).2.rel ≤ _ ∧ 0 ≤ (runK _ _ _ _ _).2.ord ∧ (runK _ _ _ _ _).2.ord < _
          rw [k4, k5, k6]
          exact hjr
        · exact hm.job t' ht' jj (by show jj ∈ m.q t'; rw [hq]; simp [hmem])
      · rw [upd_other _ _ e] at hjj'
        exact hm.job t' ht' jj hjj'
  · rw [if_neg hp]
    have hlen : ∀ t', (upd m.q t r t').length ≤ (m.q t').length := fun t' => by
      by_cases e : t' = t
      · rw [e, upd_same, hq]; simp
      · rw [upd_other _ _ e]; exact Nat.le_refl _
    refine { hm with few := ?_, many := ?_, job := ?_, keptn := ?_ }
    · intro t' ht'
      exact Nat.le_trans (hlen t') (h.few t' ht')
    · intro t' ht'
      show ((upd m.done t (m.done t + 1) t' : Nat) : Int) + ((upd m.q t r t').length : Int) ≤ m.arrd
      have := h.many t' ht'
      by_cases e : t' = t
      · subst e
        rw [upd_same, upd_same]
        rw [hq] at this
        simp only [List.length_cons] at this
        omega
      · rw [upd_other _ _ e, upd_other _ _ e]; exact this
    · intro t' ht' jj hjj
      have hjj' : jj ∈ upd m.q t r t' := hjj
      by_cases e : t' = t
      · subst e
        rw [upd_same] at hjj'
        exact hm.job t' ht' jj (by show jj ∈ m.q t'; rw [hq]; simp [hjj'])
      · rw [upd_other _ _ e] at hjj'
        exact hm.job t' ht' jj hjj'
    · show (keep m.kept _).length ≤ 40
      have := h.keptn
      unfold keep
      split
      · rw [List.length_append, List.length_tail]; simp; omega
      · rw [List.length_append]; simp; omega

theorem ok_tick {S : Sy} {m : Mc} (h : Ok S m) (hn : m.now < 1000000000000000000) : Ok S (tick S m).1 := by
  rcases tick_cases S m with ⟨_, e⟩ | ⟨t, j, r, ht, hq, _, _, e⟩
  · rw [e]
    refine { h.later hn with idle := ?_ }
    have := h.idle
    show 0 ≤ m.idle + 1 ∧ m.idle + 1 ≤ m.now + 1
    omega
  · rw [e]
    exact ok_tickAt h hn ht hq

end Go.Proofs.Ytdabcflpcklfiaa.Cad
