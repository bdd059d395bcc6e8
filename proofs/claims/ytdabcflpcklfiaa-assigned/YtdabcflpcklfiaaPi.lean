import Derived.Test.YtdabcflpcklfiaaPh
/- Assign, and the law Found. -/
namespace Go.Proofs.Ytdabcflpcklfiaa
open Go.RowKit

set_option maxRecDepth 100000 in
set_option maxHeartbeats 1000000 in
theorem assign_err (so : Option Addr) (n cap : Nat) (x y : Int) (w : World) (hx : x ≠ 0) (hC : Calls Try.prog 31 #[.slice so n cap] w fun e w' => e = .returned (.tuple #[.int .i64 x, .int .i64 y]) ∧ Below w.heap.size w w') :
    Calls Try.prog 15 #[.slice so n cap] w fun e w' => e = .returned (.tuple #[.slice none 0 0, .int .i64 x, .int .i64 y]) ∧ Below w.heap.size w w' := by
  have HC : Hid (Calls Try.prog 31 #[.slice so n cap] w fun e w' => e = .returned (.tuple #[.int .i64 x, .int .i64 y]) ∧ Below w.heap.size w w') := hC
  have hd : (x != 0) = true := by simpa using hx
  clear hC hx
  go_enter Try.func15, Try.ntmps15
  go_wp2_with fail
  refine (HC.out).mono ?_
  rintro e w1 ⟨rfl, hb1⟩
  have HB1 : Hid (Below w.heap.size w w1) := hb1
  clear hb1
  go_wp2
  go_ret3
  exact ⟨rfl, HB1.out⟩

theorem nilI (w : World) (a : Option Addr) (n c : Nat) : (binOp .eql 26 (.slice a n c) (.slice none 0 0)).run Try.prog w = .ok (.bool a.isNone) w := Lib.run_eql_slice_nil w 26 3 a n c 0 0 Try.underlying26

set_option maxRecDepth 100000 in
set_option maxHeartbeats 1000000 in
theorem assign_ok (b off n cap : Nat) (T : TD) (w : World) (hc : chkR T n = (0, 0)) (hb : b < w.heap.size) (hT : TasksAt w b off n T) :
    Calls Try.prog 15 #[.slice (some ⟨b, off, none⟩) n cap] w fun e w' => (e = .returned (.tuple #[.slice none 0 0, .int .i64 10, .int .i64 0]) ∧ ¬ Poss T n (fun q => decide (q < n)) ∨ ∃ pb Z, e = .returned (.tuple #[.slice (some ⟨pb, 0, none⟩) n n, .int .i64 0, .int .i64 0]) ∧ w.heap.size ≤ pb ∧ w'.rowIs pb 3 n (fun q => .int .i64 (Z q)) ∧ Cad.PrioB Z n ∧ (∀ i, i < n → Has T n (abv Z n i) i) ∧ (∀ i, i < n → Low T n (fun q => if q < n then decide (Z i ≤ Z q) else false) i)) ∧ Below w.heap.size w w' := by
  have hG := (good_of_chk hc).1
  have h8 := hG.eight
  have HG : Hid (Good T n) := hG
  have HC : Hid (chkR T n = (0, 0)) := hc
  have HT : Hid (TasksAt w b off n T) := hT
  clear hT hc hG
  have hnil := nilI
  go_enter Try.func15, Try.ntmps15
  go_wp2_with fail
  refine (check_all b off n cap T w 0 0 HC.out (by omega) hb HT.out).mono ?_
  rintro e w1 ⟨rfl, hb1⟩
  have HB1 : Hid (Below w.heap.size w w1) := hb1
  have hs1 := hb1.size
  clear hb1
  go_wp2_with fail
  refine (of_any b off n cap T w1 HG.out (by omega) (TasksAt.below HT.out hb HB1.out)).mono ?_
  rintro e w2 ⟨rfl, hsys, hlt, hb2⟩
  have HSYS : Hid (SysAt w2 w1.heap.size n T) := hsys
  have HB2 : Hid (Below w.heap.size w w2) := HB1.out.trans (hb2.mono hs1)
  have hs2 := HB2.out.size
  clear hsys hb2
  go_wp2_with fail
  refine (find_any w1.heap.size n T w2 HG.out hlt HSYS.out).mono ?_
  rintro e w3 ⟨⟨rfl, hno⟩ | ⟨pb, Z, rfl, hpb, hrow, hpr, hhas, hlow⟩, hb3⟩
  · have HNO : Hid (¬ Poss T n (fun q => decide (q < n))) := hno
    have HB3 : Hid (Below w.heap.size w w3) := HB2.out.trans (hb3.mono hs2)
    clear hno hb3
    go_wp2
    go_ret3
    exact ⟨.inl ⟨rfl, HNO.out⟩, HB3.out⟩
  · have HROW : Hid (w3.rowIs pb 3 n (fun q => .int .i64 (Z q))) := hrow
    have HPR : Hid (Cad.PrioB Z n) := hpr
    have HHAS : Hid (∀ i, i < n → Has T n (abv Z n i) i) := hhas
    have HLOW : Hid (∀ i, i < n → Low T n (fun q => if q < n then decide (Z i ≤ Z q) else false) i) := hlow
    have HB3 : Hid (Below w.heap.size w w3) := HB2.out.trans (hb3.mono hs2)
    clear hrow hpr hhas hlow hb3
    go_wp2
    go_ret3
    exact ⟨.inr ⟨pb, Z, rfl, by omega, HROW.out, HPR.out, HHAS.out, HLOW.out⟩, HB3.out⟩

theorem check_errs (so : Option Addr) (n cap : Nat) (T : TD) (w : World) (hm : n ≤ 9223372036854775807) (hT : 1 ≤ n → ∃ b off, so = some ⟨b, off, none⟩ ∧ b < w.heap.size ∧ TasksAt w b off n T) (x y : Int) (hc : chkR T n = (x, y)) :
    ∀ w', Below w.heap.size w w' → Calls Try.prog 31 #[.slice so n cap] w' fun e w'' => e = .returned (.tuple #[.int .i64 x, .int .i64 y]) ∧ Below w'.heap.size w' w'' := by
  intro w' hb'
  by_cases h1 : 1 ≤ n
  · obtain ⟨b, off, rfl, hb, hTb⟩ := hT h1
    have := hb'.size
    exact check_all b off n cap T w' x y hc hm (by omega) (TasksAt.below hTb hb hb')
  · unfold chkR at hc
    rw [if_neg (by omega)] at hc
    cases hc
    refine (check_many so n cap w' (by omega) hm).mono ?_
    rintro e w'' ⟨rfl, rfl⟩
    exact ⟨rfl, Below.refl _ _⟩

theorem cad_errs (so : Option Addr) (n cap : Nat) (T : TD) (w : World) (hm : n ≤ 9223372036854775807) (hT : 1 ≤ n → ∃ b off, so = some ⟨b, off, none⟩ ∧ b < w.heap.size ∧ TasksAt w b off n T) (x y : Int) (hc : chkR T n = (x, y)) :
    ∀ w', Below w.heap.size w w' → Calls Try.prog 10 #[.slice so n cap] w' fun e w'' => e = .returned (.tuple #[.int .i64 x, .int .i64 y]) ∧ Below w'.heap.size w' w'' := by
  intro w' hb'
  by_cases h1 : 1 ≤ n
  · obtain ⟨b, off, rfl, hb, hTb⟩ := hT h1
    have := hb'.size
    exact cad_all b off n cap T w' x y hc hm (by omega) (TasksAt.below hTb hb hb')
  · unfold chkR at hc
    rw [if_neg (by omega)] at hc
    cases hc
    refine (cad_many so n cap w' (by omega) hm).mono ?_
    rintro e w'' ⟨rfl, rfl⟩
    exact ⟨rfl, Below.refl _ _⟩

set_option maxRecDepth 100000 in
set_option maxHeartbeats 1000000 in
theorem found_err (so : Option Addr) (n cap : Nat) (x y : Int) (w : World) (hx : x ≠ 0)
    (h10 : ∀ w', Below w.heap.size w w' → Calls Try.prog 10 #[.slice so n cap] w' fun e w'' => e = .returned (.tuple #[.int .i64 x, .int .i64 y]) ∧ Below w'.heap.size w' w'')
    (h31 : ∀ w', Below w.heap.size w w' → Calls Try.prog 31 #[.slice so n cap] w' fun e w'' => e = .returned (.tuple #[.int .i64 x, .int .i64 y]) ∧ Below w'.heap.size w' w'') :
    Calls Try.prog 6 #[.slice so n cap] w fun e w' => e = .returned (.bool true) ∧ Below w.heap.size w w' := by
  have H10 : Hid (∀ w', Below w.heap.size w w' → Calls Try.prog 10 #[.slice so n cap] w' fun e w'' => e = .returned (.tuple #[.int .i64 x, .int .i64 y]) ∧ Below w'.heap.size w' w'') := h10
  have H31 : Hid (∀ w', Below w.heap.size w w' → Calls Try.prog 31 #[.slice so n cap] w' fun e w'' => e = .returned (.tuple #[.int .i64 x, .int .i64 y]) ∧ Below w'.heap.size w' w'') := h31
  have HX : Hid (x ≠ 0) := hx
  have hd : (x != 0) = true := by simpa using hx
  have hxx : (x == x) = true := by simp
  have hyy : (y == y) = true := by simp
  clear h10 h31 hx
  go_enter Try.func6, Try.ntmps6
  go_wp2_with fail
  refine (sure_any w).mono ?_
  rintro e w1 ⟨rfl, hb1⟩
  have HB1 : Hid (Below w.heap.size w w1) := hb1
  clear hb1
  go_wp2_with fail
  refine (H10.out w1 HB1.out).mono ?_
  rintro e w2 ⟨rfl, hb2⟩
  have HB2 : Hid (Below w.heap.size w w2) := HB1.out.trans (hb2.mono HB1.out.size)
  clear hb2
  go_wp2_with fail
  refine (assign_err so n cap x y w2 HX.out (H31.out w2 HB2.out)).mono ?_
  rintro e w3 ⟨rfl, hb3⟩
  have HB3 : Hid (Below w.heap.size w w3) := HB2.out.trans (hb3.mono HB2.out.size)
  clear hb3
  go_wp2
  go_ret
  exact ⟨rfl, HB3.out⟩

set_option maxRecDepth 100000 in
set_option maxHeartbeats 2000000 in
theorem found_ok (b off n cap : Nat) (T : TD) (w : World) (hc : chkR T n = (0, 0)) (hb : b < w.heap.size) (hT : TasksAt w b off n T) :
    Calls Try.prog 6 #[.slice (some ⟨b, off, none⟩) n cap] w fun e w' => e = .returned (.bool true) ∧ Below w.heap.size w w' := by
  obtain ⟨i0, hi0, hq0, hq1, hq2⟩ := info_parts Try.info3
  have hG := (good_of_chk hc).1
  have h8 := hG.eight
  have HG : Hid (Good T n) := hG
  have HC : Hid (chkR T n = (0, 0)) := hc
  have HT : Hid (TasksAt w b off n T) := hT
  clear hT hc hG
  go_enter Try.func6, Try.ntmps6
  go_wp2_with fail
  refine (sure_any w).mono ?_
  rintro e w1 ⟨rfl, hb1⟩
  have HB1 : Hid (Below w.heap.size w w1) := hb1
  have hs1 := hb1.size
  clear hb1
  go_wp2_with fail
  refine (cad_all b off n cap T w1 0 0 HC.out (by omega) (by omega) (TasksAt.below HT.out hb HB1.out)).mono ?_
  rintro e w2 ⟨rfl, hb2⟩
  have HB2 : Hid (Below w.heap.size w w2) := HB1.out.trans (hb2.mono HB1.out.size)
  have hs2 := HB2.out.size
  clear hb2
  go_wp2_with fail
  refine (assign_ok b off n cap T w2 HC.out (by omega) (TasksAt.below HT.out hb HB2.out)).mono ?_
  rintro e w3 ⟨⟨rfl, hno⟩ | ⟨pb, Z, rfl, hpb, hrow, hpr, hhas, _⟩, hb3⟩
  · have HNO : Hid (¬ Poss T n (fun q => decide (q < n))) := hno
    have HB3 : Hid (Below w.heap.size w w3) := HB2.out.trans (hb3.mono hs2)
    have hs3 := HB3.out.size
    clear hno hb3
    go_wp2_with (at_make; refine wpList_make_is _ rfl _ _ 26 rfl 3 i0 _ 1 8 Try.underlying26 hi0 hq0 hq1 hq2 _ _ _ _ n rfl rfl (by omega) (by omega) (by omega) (by omega) z1 zero_1 ?_)
    intro w4 hr4 hg4 hs4
    have hb4 : Below w3.heap.size w3 w4 := (Below.refl _ _).grown hg4 (Nat.le_refl _) (fun k hk => by cases hk)
    have HR4 : Hid (w4.rowIs w3.heap.size 3 n (fun q => .int .i64 ((fun _ => (0 : Int)) q))) := by
      have : w4.rowIs w3.heap.size 3 n z1 := by simpa using hr4
      exact this
    have HB4 : Hid (Below w.heap.size w w4) := HB3.out.trans (hb4.mono hs3)
    generalize hpb : w3.heap.size = pb at *
    clear hr4 hg4 hs4 hb4
    go_wp2_with fail
    have hpw : w.heap.size ≤ pb := by omega
    go_loopw [13] (fun iv wr => ∃ (k : Nat) (G : Nat → Int), k ≤ n ∧ iv = .int .i64 k ∧ wr.rowIs pb 3 n (fun q => .int .i64 (G q)) ∧ Below w.heap.size w wr) (fun iv _ => n - (intOf iv).toNat)
    case atStart => exact ⟨0, _, Nat.zero_le _, rfl, HR4.out, HB4.out⟩
    case round =>
      obtain ⟨k, G, hk, rfl, hr, hbl⟩ := hrel
      by_cases hlt : k < n
      · have y0 : wr.cell? ⟨pb, k, none⟩ = some (.int .i64 (G k)) := hr.cell hlt
        have z0 : wr.frozen? ⟨pb, k, none⟩ = false := hr.frozen k
        have HR2 : Hid ((wr.setCell ⟨pb, k, none⟩ (.int .i64 (-1))).rowIs pb 3 n (fun q => .int .i64 (updZ G k (-1) q))) := row_set_int hr k (-1)
        have HB2 : Hid (Below w.heap.size w (wr.setCell ⟨pb, k, none⟩ (.int .i64 (-1)))) := hbl.setCell hpw _
        clear hr hbl
        go_wp2
        go_roundw
        case rel => exact ⟨k + 1, _, by omega, by go_num, HR2.out, HB2.out⟩
        case measure => simp [intOf]; omega
      · have HRR : Hid (wr.rowIs pb 3 n (fun q => .int .i64 (G q))) := hr
        have HBL : Hid (Below w.heap.size w wr) := hbl
        clear hr hbl
        have htr := tries_any (cap := cap) HC.out hb HT.out hpw n 0 G wr (by omega) HBL.out HRR.out
        have HTR : Hid (Calls Try.prog 18 #[.slice (some ⟨b, off, none⟩) n cap, .slice (some ⟨pb, 0, none⟩) n n, .int .i64 0] wr fun e w' => e = .returned (.bool false) ∧ Below w.heap.size wr w') := by
          refine htr.mono ?_
          rintro e w' ⟨t, F', rfl, hp, _, hb'⟩
          cases t with
          | true => exact absurd (hp rfl) HNO.out
          | false => exact ⟨rfl, hb'⟩
        clear htr
        go_wp2_with fail
        refine (HTR.out).mono ?_
        rintro e w5 ⟨rfl, hb5⟩
        have HB5 : Hid (Below w.heap.size w w5) := HBL.out.trans hb5
        clear hb5
        go_wp2
        go_ret
        exact ⟨rfl, HB5.out⟩
  · have HROW : Hid (w3.rowIs pb 3 n (fun q => .int .i64 (Z q))) := hrow
    have HPR : Hid (Cad.PrioB Z n) := hpr
    have HHAS : Hid (∀ i, i < n → Has T n (abv Z n i) i) := hhas
    have HB3 : Hid (Below w.heap.size w w3) := HB2.out.trans (hb3.mono hs2)
    have hs3 := HB3.out.size
    have hpl := hrow.lt
    clear hrow hpr hhas hb3
    go_wp2_with fail
    refine (ana_ok b off n cap pb 0 n T Z w3 HC.out (by omega) hpl (TasksAt.below HT.out hb HB3.out) (fun i hi => by rw [Nat.zero_add]; exact HROW.out.cell hi) HPR.out).mono ?_
    rintro e w4 ⟨g, R, rfl, hg, hrg, hR, hb4⟩
    have HRG : Hid (w4.rowIs g 3 n (fun q => .int .i64 (R q))) := hrg
    have HB4 : Hid (Below w.heap.size w w4) := HB3.out.trans (hb4.mono hs3)
    have HALL : Hid (true = decide (∀ i, i < n → 0 < R i)) := by
      unfold Hid
      symm
      simp only [decide_eq_true_eq]
      exact fun i hi => (has_iff (hR i hi)).1 (HHAS.out i hi)
    have hnn : ((n : Int) == (n : Int)) = true := by simp
    clear hrg hR hb4
    go_wp2_with fail
    refine (accepted_any g n n R true w4 h8 HRG.out HALL.out).mono ?_
    rintro e w5 ⟨rfl, hb5⟩
    have HB5 : Hid (Below w.heap.size w w5) := HB4.out.trans (hb5.mono HB4.out.size)
    clear hb5
    go_wp2
    go_ret
    exact ⟨rfl, HB5.out⟩

/-- The law Found, of any tasks. -/
theorem law6_any (so : Option Addr) (n cap : Nat) (T : TD) (w : World) (hm : n ≤ 9223372036854775806) (hT : 1 ≤ n → ∃ b off, so = some ⟨b, off, none⟩ ∧ b < w.heap.size ∧ TasksAt w b off n T) :
    Calls Try.prog 6 #[.slice so n cap] w fun e w' => e = .returned (.bool true) ∧ Below w.heap.size w w' := by
  obtain ⟨x, y, hc⟩ : ∃ x y, chkR T n = (x, y) := ⟨_, _, rfl⟩
  by_cases hx : x = 0
  · subst hx
    obtain ⟨hG, rfl⟩ := good_of_chk hc
    obtain ⟨b, off, rfl, hb, hTb⟩ := hT hG.one
    exact found_ok b off n cap T w hc hb hTb
  · exact found_err so n cap x y w hx (cad_errs so n cap T w (by omega) hT x y hc) (check_errs so n cap T w (by omega) hT x y hc)

end Go.Proofs.Ytdabcflpcklfiaa
