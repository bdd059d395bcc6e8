import Derived.Test.YtdabcflpcklfiaaGreatA11
namespace Go.Proofs.YtdabcflpcklfiaaGreat
open Go.RowKit

theorem StepsAt.below {w w' : World} {b off len : Nat} {K N : Nat → Int} (h : StepsAt w b off len K N) (hb : b < w.heap.size) (hbel : Below w.heap.size w w') : StepsAt w' b off len K N :=
  fun i hi => ⟨(hbel.cell (by exact hb)).trans (h i hi).1, (hbel.cell (by exact hb)).trans (h i hi).2⟩

/-- A program's value in memory. -/
def ProgAt (w : World) (ao : Option Addr) (pl : Nat) (K N : Nat → Int) : Prop :=
  pl ≤ 9223372036854775806 ∧ (1 ≤ pl → ∃ b off, ao = some ⟨b, off, none⟩ ∧ b < w.heap.size ∧ StepsAt w b off pl K N)

theorem ProgAt.below {w w' : World} {ao : Option Addr} {pl : Nat} {K N : Nat → Int} (h : ProgAt w ao pl K N) (hbel : Below w.heap.size w w') : ProgAt w' ao pl K N :=
  ⟨h.1, fun h1 => by
    obtain ⟨b, off, e, hb, hs⟩ := h.2 h1
    exact ⟨b, off, e, Nat.lt_of_lt_of_le hb hbel.size, hs.below hb hbel⟩⟩

theorem progB_short {K N : Nat → Int} {pl : Nat} (h : pl < 1 ∨ 16 < pl) : Cad.progB K N pl = false := by
  simp only [Cad.progB, decide_eq_false_iff_not]; omega

theorem prog_all (ao : Option Addr) (pl pc : Nat) (K N : Nat → Int) (w : World) (h : ProgAt w ao pl K N) :
    Calls Tryz.prog 69 #[.slice ao pl pc] w fun e w' => e = .returned (.bool (Cad.progB K N pl)) ∧ Below w.heap.size w w' := by
  by_cases hs : pl < 1 ∨ 16 < pl
  · rw [progB_short hs]
    exact prog_short ao pl pc w hs (by have := h.1; omega)
  · obtain ⟨b, off, rfl, hb, hst⟩ := h.2 (by omega)
    exact prog_any b off pl pc K N w (by omega) (by omega) hb hst

theorem pmb_all (ao : Option Addr) (pl pc : Nat) (K N : Nat → Int) (w : World) (h : ProgAt w ao pl K N) :
    Calls Tryz.prog 126 #[.slice ao pl pc] w fun e w' => e = .returned (.bool (Cad.progB K N pl)) ∧ Below w.heap.size w w' := by
  by_cases hs : pl < 1 ∨ 16 < pl
  · rw [progB_short hs]
    exact pmb_short ao pl pc w hs (by have := h.1; omega)
  · obtain ⟨b, off, rfl, hb, hst⟩ := h.2 (by omega)
    exact pmb_any b off pl pc K N w (by omega) (by omega) hb hst

set_option maxHeartbeats 400000 in
theorem task_any (p d j : Int) (ao : Option Addr) (pl pc : Nat) (K N : Nat → Int) (w : World) (h : ProgAt w ao pl K N) :
    Calls Tryz.prog 97 #[.agg #[.int .i64 p, .int .i64 d, .int .i64 j, .slice ao pl pc]] w fun e w' => e = .returned (.int .i64 (Cad.taskE p d j K N pl)) ∧ Below w.heap.size w w' := by
  have HP : Hid (ProgAt w ao pl K N) := h
  clear h
  cases ht : Cad.timesB p d j
  · have FIN : Hid (Cad.taskE p d j K N pl = 2) := by simp [Cad.taskE, ht, Hid]
    have HT : Hid _ := ht
    clear ht
    go_enter Tryz.func97, Tryz.ntmps97
    go_wp2_with fail
    refine (times_any _ _ _ _ _).mono ?_
    rintro e w1 ⟨rfl, hb1⟩
    rw [HT.out]
    go_wp2
    go_ret
    exact ⟨ret_int FIN.out.symm, (below_alloc1 _ _).trans (hb1.mono (by simp))⟩
  · have HT : Hid _ := ht
    clear ht
    go_enter Tryz.func97, Tryz.ntmps97
    go_wp2_with fail
    refine (times_any _ _ _ _ _).mono ?_
    rintro e w1 ⟨rfl, hb1⟩
    rw [HT.out]
    have hbel := (below_alloc1 w (.cells #[.int .i64 p, .int .i64 d, .int .i64 j, .slice ao pl pc] 77)).trans (hb1.mono (by simp))
    have hcell : w1.cell? ⟨w.heap.size, 3, none⟩ = some (.slice ao pl pc) := (hb1.cell (by simp)).trans (by simp)
    have HP1 : Hid (ProgAt w1 ao pl K N) := ProgAt.below HP.out hbel
    go_wp2_with fail
    refine (pmb_all _ _ _ K N _ HP1.out).mono ?_
    rintro e w2 ⟨rfl, hb2⟩
    have hbel2 := hbel.trans (hb2.mono hbel.size)
    cases hpb : Cad.progB K N pl
    · have FIN : Hid (Cad.taskE p d j K N pl = 3) := by simp [Cad.taskE, HT.out, hpb, Hid]
      clear hpb
      go_wp2
      go_ret
      exact ⟨ret_int FIN.out.symm, hbel2⟩
    · have FIN : Hid (Cad.taskE p d j K N pl = 0) := by simp [Cad.taskE, HT.out, hpb, Hid]
      clear hpb
      go_wp2
      go_ret
      exact ⟨ret_int FIN.out.symm, hbel2⟩

/-- What the tasks of a list are, by their numbers. -/
structure TD where
  P : Nat → Int
  D : Nat → Int
  J : Nat → Int
  A : Nat → Option Addr
  L : Nat → Nat
  C : Nat → Nat
  K : Nat → Nat → Int
  N : Nat → Nat → Int

def TD.E (T : TD) (i : Nat) : Int := Cad.taskE (T.P i) (T.D i) (T.J i) (T.K i) (T.N i) (T.L i)

def TasksAt (w : World) (b off n : Nat) (T : TD) : Prop :=
  ∀ i, i < n → w.cell? ⟨b, off + i * 4, none⟩ = some (.int .i64 (T.P i)) ∧ w.cell? ⟨b, off + i * 4 + 1, none⟩ = some (.int .i64 (T.D i)) ∧
    w.cell? ⟨b, off + i * 4 + 2, none⟩ = some (.int .i64 (T.J i)) ∧ w.cell? ⟨b, off + i * 4 + 3, none⟩ = some (.slice (T.A i) (T.L i) (T.C i)) ∧ ProgAt w (T.A i) (T.L i) (T.K i) (T.N i)

theorem TasksAt.below {w w' : World} {b off n : Nat} {T : TD} (h : TasksAt w b off n T) (hb : b < w.heap.size) (hbel : Below w.heap.size w w') : TasksAt w' b off n T :=
  fun i hi => by
    obtain ⟨h0, h1, h2, h3, h4⟩ := h i hi
    exact ⟨(hbel.cell (by exact hb)).trans h0, (hbel.cell (by exact hb)).trans h1, (hbel.cell (by exact hb)).trans h2, (hbel.cell (by exact hb)).trans h3, h4.below hbel⟩

set_option maxHeartbeats 400000 in
theorem check_many (ao : Option Addr) (n cap : Nat) (w : World) (h : n < 1 ∨ 8 < n) (hm : n ≤ 9223372036854775807) :
    Calls Tryz.prog 66 #[.slice ao n cap] w fun e w' => e = .returned (.tuple #[.int .i64 1, .int .i64 0]) ∧ w' = w := by
  by_cases h1 : n < 1
  · have hd : ((n : Int) == 0) = true := by rw [beq_iff_eq]; omega
    go_enter Tryz.func66, Tryz.ntmps66
    go_wp2
    go_ret2
    exact ⟨rfl, rfl⟩
  · have h2 : 8 < n := by omega
    have hd : ((n : Int) == 0) = false := by rw [beq_eq_false_iff_ne]; omega
    go_enter Tryz.func66, Tryz.ntmps66
    go_wp2
    go_ret2
    exact ⟨rfl, rfl⟩

theorem ret_two {a b c d : Int} (h : (a, b) = (c, d)) : Ending.returned (.tuple #[.int .i64 a, .int .i64 b]) = .returned (.tuple #[.int .i64 c, .int .i64 d]) := by cases h; rfl

set_option maxHeartbeats 400000 in
theorem check_some (b off n cap : Nat) (T : TD) (w : World) (h1 : 1 ≤ n) (h8 : n ≤ 8) (hb : b < w.heap.size) (hT : TasksAt w b off n T) :
    Calls Tryz.prog 66 #[.slice (some ⟨b, off, none⟩) n cap] w fun e w' => e = .returned (.tuple #[.int .i64 (Cad.chk T.E n).1, .int .i64 (Cad.chk T.E n).2]) ∧ Below w.heap.size w w' := by
  have hd : ((n : Int) == 0) = false := by rw [beq_eq_false_iff_ne]; omega
  have hd2 : decide ((8 : Int) < (n : Int)) = false := by rw [decide_eq_false_iff_not]; omega
  have HT : Hid (TasksAt w b off n T) := hT
  clear hT
  go_enter Tryz.func66, Tryz.ntmps66
  go_wp2
  clear hd hd2
  go_loopw [17] (fun i wr => ∃ k : Nat, k ≤ n ∧ i = .int .i64 k ∧ (∀ j, j < k → T.E j = 0) ∧ Below w.heap.size w wr) (fun i _ => n - (intOf i).toNat)
  case atStart => exact ⟨0, Nat.zero_le _, rfl, fun j hj => by omega, Below.refl _ _⟩
  case round =>
    obtain ⟨k, hk, rfl, hz, hbel⟩ := hrel
    have HZ : Hid (∀ j, j < k → T.E j = 0) := hz
    clear hz
    have hbwr : b < wr.heap.size := Nat.lt_of_lt_of_le hb hbel.size
    have hsz : w.heap.size ≤ wr.heap.size := hbel.size
    by_cases hlt : k < n
    · obtain ⟨c0, c1, c2, c3, hp⟩ := HT.out.below hb hbel k hlt
      have HP : Hid _ := hp
      clear hp
      go_wp2_with fail
      refine (task_any _ _ _ _ _ _ (T.K k) (T.N k) _ ?_).mono ?_
      · exact ProgAt.below HP.out (below_alloc1 _ _)
      rintro e w1 ⟨rfl, hb1⟩
      have hbel1 : Below w.heap.size w w1 := (hbel.alloc hbel.size _).trans (hb1.mono (by simp; omega))
      rw [show Cad.taskE (T.P k) (T.D k) (T.J k) (T.K k) (T.N k) (T.L k) = T.E k from rfl]
      by_cases he : T.E k = 0
      · rw [he]
        have HE : Hid (T.E k = 0) := he
        clear he
        go_wp2
        go_roundw
        case rel => exact ⟨k + 1, by omega, by go_num, fun j hj => by
          by_cases e : j = k
          · subst e; exact HE.out
          · exact HZ.out j (by omega), hbel1⟩
        case measure => simp [intOf]; omega
      · have hd : (T.E k != 0) = true := by simpa using he
        have HE : Hid (T.E k ≠ 0) := he
        clear he
        go_wp2
        go_ret2
        exact ⟨ret_two (Cad.chk_hit hlt HZ.out HE.out).symm, hbel1⟩
    · obtain rfl : k = n := by omega
      go_wp2
      go_ret2
      exact ⟨ret_two (Cad.chk_ok HZ.out).symm, hbel⟩

set_option maxHeartbeats 400000 in
theorem cad_many (ao : Option Addr) (n cap : Nat) (w : World) (h : n < 1 ∨ 8 < n) (hm : n ≤ 9223372036854775807) :
    Calls Tryz.prog 41 #[.slice ao n cap] w fun e w' => e = .returned (.tuple #[.int .i64 1, .int .i64 0]) ∧ w' = w := by
  have H : Hid (n < 1 ∨ 8 < n) := h
  clear h
  go_enter Tryz.func41, Tryz.ntmps41
  go_wp2_with (go_at_call 66; refine (check_many _ _ _ _ H.out hm).mono ?_; rintro e w' ⟨rfl, rfl⟩)
  go_ret2
  exact ⟨rfl, rfl⟩

set_option maxHeartbeats 400000 in
theorem cad_some (b off n cap : Nat) (T : TD) (w : World) (h1 : 1 ≤ n) (h8 : n ≤ 8) (hb : b < w.heap.size) (hT : TasksAt w b off n T) :
    Calls Tryz.prog 41 #[.slice (some ⟨b, off, none⟩) n cap] w fun e w' => e = .returned (.tuple #[.int .i64 (Cad.chk T.E n).1, .int .i64 (Cad.chk T.E n).2]) ∧ Below w.heap.size w w' := by
  have HT : Hid (TasksAt w b off n T) := hT
  clear hT
  go_enter Tryz.func41, Tryz.ntmps41
  go_wp2_with fail
  refine (check_some b off n cap T _ h1 h8 hb HT.out).mono ?_
  rintro e w1 ⟨rfl, hb1⟩
  go_wp2
  go_ret2
  exact ⟨rfl, hb1⟩

set_option maxHeartbeats 400000 in
theorem ref_many (ao : Option Addr) (n cap : Nat) (w : World) (h : n < 1 ∨ 8 < n) (hm : n ≤ 9223372036854775807) :
    Calls Tryz.prog 42 #[.slice ao n cap] w fun e w' => e = .returned (.tuple #[.int .i64 1, .int .i64 0]) ∧ w' = w := by
  by_cases h1 : n < 1
  · go_enter Tryz.func42, Tryz.ntmps42
    go_wp2
    go_ret2
    exact ⟨rfl, rfl⟩
  · have h2 : 8 < n := by omega
    clear h
    go_enter Tryz.func42, Tryz.ntmps42
    go_wp2
    go_ret2
    exact ⟨rfl, rfl⟩

set_option maxRecDepth 100000 in
set_option maxHeartbeats 2000000 in
theorem ref_some (b off n cap : Nat) (T : TD) (w : World) (h1 : 1 ≤ n) (h8 : n ≤ 8) (hb : b < w.heap.size) (hT : TasksAt w b off n T) :
    Calls Tryz.prog 42 #[.slice (some ⟨b, off, none⟩) n cap] w fun e w' => e = .returned (.tuple #[.int .i64 (Cad.chk T.E n).1, .int .i64 (Cad.chk T.E n).2]) ∧ Below w.heap.size w w' := by
  have hd : decide ((n : Int) < 1) = false := by rw [decide_eq_false_iff_not]; omega
  have hd2 : decide ((8 : Int) < (n : Int)) = false := by rw [decide_eq_false_iff_not]; omega
  have HT : Hid (TasksAt w b off n T) := hT
  clear hT
  go_enter Tryz.func42, Tryz.ntmps42
  go_wp2
  clear hd hd2
  go_loopw [4] (fun i wr => ∃ k : Nat, k ≤ n ∧ i = .int .i64 k ∧ (∀ j, j < k → T.E j = 0) ∧ Below w.heap.size w wr) (fun i _ => n - (intOf i).toNat)
  case atStart => exact ⟨0, Nat.zero_le _, rfl, fun j hj => by omega, Below.refl _ _⟩
  case round =>
    obtain ⟨k, hk, rfl, hz, hbel⟩ := hrel
    have HZ : Hid (∀ j, j < k → T.E j = 0) := hz
    clear hz
    have hbwr : b < wr.heap.size := Nat.lt_of_lt_of_le hb hbel.size
    have hsz : w.heap.size ≤ wr.heap.size := hbel.size
    by_cases hlt : k < n
    · obtain ⟨c0, c1, c2, c3, hp⟩ := HT.out.below hb hbel k hlt
      have HP : Hid _ := hp
      clear hp
      have HE : Hid (T.E k = if Cad.timesB (T.P k) (T.D k) (T.J k) = true then (if Cad.progB (T.K k) (T.N k) (T.L k) = true then 0 else 3) else 2) := rfl
      have hbt : Cad.timesB (T.P k) (T.D k) (T.J k) = decide (1 ≤ T.P k ∧ T.P k ≤ 10000 ∧ 1 ≤ T.D k ∧ T.D k ≤ T.P k ∧ 0 ≤ T.J k ∧ T.J k ≤ T.D k) := rfl
      have HBT : Hid (Cad.timesB (T.P k) (T.D k) (T.J k) = decide (1 ≤ T.P k ∧ T.P k ≤ 10000 ∧ 1 ≤ T.D k ∧ T.D k ≤ T.P k ∧ 0 ≤ T.J k ∧ T.J k ≤ T.D k)) := hbt
      clear hbt
      generalize T.P k = p at *
      generalize T.D k = d at *
      generalize T.J k = j at *
      have HB : ∀ o, Below w.heap.size w (wr.alloc o) := fun o => hbel.alloc hbel.size o
      have BAD : Hid (¬ (1 ≤ p ∧ p ≤ 10000 ∧ 1 ≤ d ∧ d ≤ p ∧ 0 ≤ j ∧ j ≤ d) → T.E k = 2) := by
        intro h
        rw [HE.out, HBT.out, if_neg (by simpa using h)]
      by_cases g : 1 ≤ p ∧ p ≤ 10000 ∧ 1 ≤ d ∧ d ≤ p ∧ 0 ≤ j ∧ j ≤ d
      · have HTM : Hid (Cad.timesB p d j = true) := by show _ = true; rw [HBT.out]; simpa using g
        obtain ⟨g1, g2, g3, g4, g5, g6⟩ := g
        go_wp2_with fail
        refine (prog_all _ _ _ (T.K k) (T.N k) _ ?_).mono ?_
        · exact ProgAt.below HP.out (below_alloc1 _ _)
        rintro e w1 ⟨rfl, hb1⟩
        have hbel1 : Below w.heap.size w w1 := (hbel.alloc hbel.size _).trans (hb1.mono (by simp; omega))
        cases hpb : Cad.progB (T.K k) (T.N k) (T.L k)
        · have HE3 : Hid (T.E k = 3) := by show _ = _; rw [HE.out, HTM.out, hpb]; rfl
          clear hpb
          go_wp2
          go_ret2
          exact ⟨ret_two (by rw [Cad.chk_hit hlt HZ.out (by rw [HE3.out]; decide), HE3.out]), hbel1⟩
        · have HE0 : Hid (T.E k = 0) := by show _ = _; rw [HE.out, HTM.out, hpb]; rfl
          clear hpb
          go_wp2
          go_roundw
          case rel => exact ⟨k + 1, by omega, by go_num, fun j hj => by
            by_cases e : j = k
            · subst e; exact HE0.out
            · exact HZ.out j (by omega), hbel1⟩
          case measure => simp [intOf]; omega
      · have FIN : Hid (T.E k = 2) := BAD.out g
        have HC : Hid (Cad.chk T.E n = (2, (k : Int))) := by show _ = _; rw [Cad.chk_hit hlt HZ.out (by rw [FIN.out]; decide), FIN.out]
        rcases (show p < 1 ∨ (1 ≤ p ∧ 10000 < p) ∨ (1 ≤ p ∧ p ≤ 10000 ∧ d < 1) ∨ (1 ≤ p ∧ p ≤ 10000 ∧ 1 ≤ d ∧ p < d) ∨ (1 ≤ p ∧ p ≤ 10000 ∧ 1 ≤ d ∧ d ≤ p ∧ j < 0) ∨ (1 ≤ p ∧ p ≤ 10000 ∧ 1 ≤ d ∧ d ≤ p ∧ 0 ≤ j ∧ d < j) by omega) with q | ⟨q1, q2⟩ | ⟨q1, q2, q3⟩ | ⟨q1, q2, q3, q4⟩ | ⟨q1, q2, q3, q4, q5⟩ | ⟨q1, q2, q3, q4, q5, q6⟩
        all_goals
          clear g
          go_wp2
          go_ret2
          exact ⟨ret_two HC.out.symm, HB _⟩
    · obtain rfl : k = n := by omega
      go_wp2
      go_ret2
      exact ⟨ret_two (Cad.chk_ok HZ.out).symm, hbel⟩
end Go.Proofs.YtdabcflpcklfiaaGreat
