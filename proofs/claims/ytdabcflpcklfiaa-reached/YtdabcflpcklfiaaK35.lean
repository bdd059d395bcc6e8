import Derived.Test.YtdabcflpcklfiaaK34
/- The law Reached. -/
namespace Go.Proofs.Ytdabcflpcklfiaa
open Go.RowKit Cad

/-- Nobody is held up where nobody locks. -/
theorem no_block {T : TD} {Z : Nat → Int} {n i : Nat} {R D b : Int} (hG : Good T n) (hno : ∀ i, i < n → ∀ k, k < T.L i → T.K i k ≠ 2) (h : BndOf (sysOf T Z n) R D i b) : b = 0 := by
  rcases h.1.2.1 with e | ⟨j, r, _, _, _, _, ⟨t, ht, _, hl⟩, _⟩
  · exact e
  · exfalso
    obtain ⟨k, hk, h2, _⟩ := (lon_pos_iff (hG.prog t ht)).1 hl
    exact hno t ht k hk h2

theorem task_cell (w : World) (p d j : Int) (v : Value) : (w.alloc (.cells #[.int .i64 p, .int .i64 d, .int .i64 j, v] 67)).cell? ⟨w.heap.size, 2, none⟩ = some (.int .i64 j) := by
  simp

/-- The law takes a program's demands, and lets a job arrive with them. -/
theorem pair_any {B g fb n kb t0 i : Nat} {R F W Bk : Nat → Int} {S : Sy} {m : Mc} {w : World} {z : Int} (hb : Bd S W Bk) (hrs : RS B g fb n R F kb S m w) (hrc : Rch S W Bk z t0 i m F) (hi : i < S.n) (ht : t0 ≤ 20000) (pb po cap : Nat) (hL : S.L i ≤ 16) (hN : ∀ k, k < S.L i → S.K i k = 1 → 1 ≤ S.N i k) (hpb : pb < w.heap.size) (hst : StepsAt w pb po (S.L i) (S.K i) (S.N i)) (jit : Int)
    (hc : ((t0 : Int) = z - S.J i ∧ jit = S.J i) ∨ (z - S.J i < t0 ∧ ((t0 : Int) - (z - S.J i)) % S.P i = 0 ∧ jit = 0)) :
    Calls Try.prog 30 #[.slice (some ⟨pb, po, none⟩) (S.L i) cap] w fun e w' => ∃ v, e = .returned v ∧ Below w.heap.size w w' ∧
      Calls Try.prog 29 #[.pointer (some ⟨kb, 0, none⟩), .int .i64 i, .int .i64 jit, v] w' fun e w'' => e = .returned (.int .i64 0) ∧ ∃ m', RS B g fb n R F kb S m' w'' ∧ Rch S W Bk z t0 (i + 1) m' F ∧ Below B w w'' := by
  refine (computes_any pb po (S.L i) cap (S.K i) (S.N i) w hL hpb hst).mono ?_
  rintro e w' ⟨v, rfl, hown, hbel⟩
  refine ⟨v, rfl, hbel, ?_⟩
  obtain ⟨e0, hrc'⟩ := rch_arrive hb hrc hi (by omega) (comps_full hN) hc
  have h8 := hrc.rn'.ok.eight
  refine (rs_arrive (hrs.below hbel) (by have := hrc.arrd; omega) (i : Int) jit (compsTo (S.K i) (S.N i) (S.L i)) v w.heap.size hown (by rw [comps_len]; have := cmpTo_le (S.K i) (S.L i); omega)).mono ?_
  rintro e w'' ⟨rfl, hrs', hb'⟩
  rw [e0]
  exact ⟨rfl, _, hrs', hrc', (hbel.mono hrs.hB).trans hb'⟩

set_option maxRecDepth 100000 in
set_option maxHeartbeats 4000000 in
theorem law7_any (so ao : Option Addr) (n cap pn pc : Nat) (T : TD) (Z : Nat → Int) (w : World) (hm : n ≤ 9223372036854775806) (hT : 1 ≤ n → ∃ b off, so = some ⟨b, off, none⟩ ∧ b < w.heap.size ∧ TasksAt w b off n T)
    (hZ : 1 ≤ pn → ∃ pb po, ao = some ⟨pb, po, none⟩ ∧ pb < w.heap.size ∧ IntsAt w pb po pn Z) :
    Calls Try.prog 9 #[.slice so n cap, .slice ao pn pc] w fun e w' => e = .returned (.bool true) ∧ Below w.heap.size w w' := by
  have HT : Hid (1 ≤ n → ∃ b off, so = some ⟨b, off, none⟩ ∧ b < w.heap.size ∧ TasksAt w b off n T) := hT
  have HZ : Hid (1 ≤ pn → ∃ pb po, ao = some ⟨pb, po, none⟩ ∧ pb < w.heap.size ∧ IntsAt w pb po pn Z) := hZ
  obtain ⟨i0, hi0, hq0, hq1, hq2⟩ := info_parts Try.info3
  clear hT hZ
  go_enter Try.func9, Try.ntmps9
  go_wp2_with fail
  refine (opened_any so ao n cap pn pc T Z w (by omega) HT.out HZ.out).mono ?_
  rintro e w1 (⟨rfl, hb1⟩ | ⟨kb, g, R, rfl, hG, hP, rfl, hgB, hrow, hR, hk, hb1⟩)
  · have HB1 : Hid (Below w.heap.size w w1) := hb1
    clear hb1
    go_wp2
    go_ret
    exact ⟨rfl, HB1.out⟩
  · have h8 := hG.eight
    have h1n := hG.one
    obtain ⟨b, off, rfl, hb, hTb⟩ := HT.out h1n
    have HTb : Hid (TasksAt w b off pn T) := hTb
    have HG : Hid (Good T pn) := hG
    have HP : Hid (PrioB Z pn) := hP
    have HROW : Hid (w1.rowIs g 3 pn (fun q => .int .i64 (R q))) := hrow
    have HR : Hid (∀ i, i < pn → CodeB T Z pn i (R i)) := hR
    have HK : Hid (KSt (fun q => q < w.heap.size ∨ q = g) w1 kb (sysOf T Z pn) Cad.start) := hk
    have HB1 : Hid (Below w.heap.size w w1) := hb1
    clear hTb hG hP hrow hR hk hb1 HT HZ
    go_wp2_with fail
    refine (accepted_any g pn pn R _ w1 h8 HROW.out rfl).mono ?_
    rintro e w2 ⟨rfl, hb2⟩
    have hs1 := HB1.out.size
    have HB2 : Hid (Below w.heap.size w w2) := HB1.out.trans (hb2.mono hs1)
    have HROW2 : Hid (w2.rowIs g 3 pn (fun q => .int .i64 (R q))) := HROW.out.of_block (hb2.block _ HROW.out.lt)
    have HK2 : Hid (KSt (fun q => q < w.heap.size ∨ q = g) w2 kb (sysOf T Z pn) Cad.start) := HK.out.below hb2
    clear hb2 HB1 HROW HK
    by_cases hacc : ∀ i, i < pn → 0 < R i
    · have hd : decide (∀ i, i < pn → 0 < R i) = true := by simpa using hacc
      rw [hd]
      have HACC : Hid (∀ i, i < pn → 0 < R i) := hacc
      clear hacc hd
      go_wp2_with fail
      refine (locks_any b off pn cap T _ w2 HG.out (by have := HB2.out.size; omega) (TasksAt.below HTb.out hb HB2.out) rfl).mono ?_
      rintro e w3 ⟨rfl, hb3⟩
      have hs2 := HB2.out.size
      have HB3 : Hid (Below w.heap.size w w3) := HB2.out.trans (hb3.mono hs2)
      have HROW3 : Hid (w3.rowIs g 3 pn (fun q => .int .i64 (R q))) := HROW2.out.of_block (hb3.block _ HROW2.out.lt)
      have HK3 : Hid (KSt (fun q => q < w.heap.size ∨ q = g) w3 kb (sysOf T Z pn) Cad.start) := HK2.out.below hb3
      clear hb3 HB2 HROW2 HK2
      by_cases hlk : ∃ i, i < pn ∧ ∃ k, k < T.L i ∧ T.K i k = 2
      · have hd : decide (∃ i, i < pn ∧ ∃ k, k < T.L i ∧ T.K i k = 2) = true := by simpa using hlk
        rw [hd]
        clear hd hlk
        go_wp2
        go_ret
        exact ⟨rfl, HB3.out⟩
      · have hd : decide (∃ i, i < pn ∧ ∃ k, k < T.L i ∧ T.K i k = 2) = false := by simpa using hlk
        rw [hd]
        have HNO : Hid (∀ i, i < pn → ∀ k, k < T.L i → T.K i k ≠ 2) := fun i hi k hk h2 => hlk ⟨i, hi, k, hk, h2⟩
        clear hd hlk
        go_wp2_with fail
        have hs3 := HB3.out.size
        have hJ : Hid (∀ j, j < pn → T.J j ≤ 10000 ∧ 0 ≤ T.J j ∧ 0 < R j ∧ R j ≤ 10000) := fun j hj => by
          have h1 := HG.out.times j hj
          obtain ⟨_, hb⟩ := bnd_of hj (HR.out j hj) (HACC.out j hj)
          have h2 := hb.2.2.1
          have h3 := HACC.out j hj
          exact ⟨by omega, by omega, h3, by omega⟩
        go_loopw [9, 10] (fun zv iv wr => ∃ k : Nat, k ≤ pn ∧ iv = .int .i64 k ∧ zv = .int .i64 (topTo T.J k) ∧ Below w3.heap.size w3 wr) (fun _ iv _ => pn - (intOf iv).toNat)
        case atStart => exact ⟨0, Nat.zero_le _, rfl, rfl, Below.refl _ _⟩
        case round =>
          obtain ⟨k, hk, rfl, rfl, hbel⟩ := hrel
          have HBL : Hid (Below w3.heap.size w3 wr) := hbel
          have hsr := hbel.size
          clear hbel
          by_cases hlt : k < pn
          · obtain ⟨_, _, t2, _, _⟩ := TasksAt.below HTb.out hb (HB3.out.trans (HBL.out.mono hs3)) k hlt
            have hj := hJ.out k hlt
            have hbw : b < wr.heap.size := by omega
            by_cases hc : topTo T.J k < T.J k
            · have bd : decide (topTo T.J k < T.J k) = true := by simpa using hc
              have he : topTo T.J (k + 1) = T.J k := by rw [topTo, if_pos hc]
              have HE : Hid (topTo T.J (k + 1) = T.J k) := he
              clear he
              go_wp2
              go_roundw
              case rel => exact ⟨k + 1, by omega, by go_num, by rw [HE.out], HBL.out⟩
              case measure => simp [intOf]; omega
            · have bd : decide (topTo T.J k < T.J k) = false := by simpa using hc
              have he : topTo T.J (k + 1) = topTo T.J k := by rw [topTo, if_neg hc]
              have HE : Hid (topTo T.J (k + 1) = topTo T.J k) := he
              clear he
              go_wp2
              go_roundw
              case rel => exact ⟨k + 1, by omega, by go_num, by rw [HE.out], HBL.out⟩
              case measure => simp [intOf]; omega
          · obtain rfl : k = pn := by omega
            obtain ⟨hz0, hz1, hz2⟩ := topTo_spec T.J 10000 (by omega) k (fun j hj => (hJ.out j hj).1)
            have HZ2 : Hid (∀ j, j < k → T.J j ≤ topTo T.J k) := hz2
            clear hz2
            go_wp2_with fail
            have HZD : Hid (topTo T.J k = topTo T.J k) := rfl
            generalize hzz : topTo T.J k = z at *
            go_loopw [11, 12] (fun ev iv wr => ∃ q : Nat, q ≤ k ∧ iv = .int .i64 q ∧ ev = .int .i64 (topTo (fun j => z - T.J j + R j) q) ∧ Below w3.heap.size w3 wr) (fun _ iv _ => k - (intOf iv).toNat)
            case atStart => exact ⟨0, Nat.zero_le _, rfl, rfl, HBL.out⟩
            case round =>
              obtain ⟨q, hq, rfl, rfl, hbel⟩ := hrel
              clear HBL
              have HBL : Hid (Below w3.heap.size w3 wr) := hbel
              have hsr2 := hbel.size
              clear hbel
              have hEB : ∀ j, j < k → z - T.J j + R j ≤ 20000 := fun j hj => by have := hJ.out j hj; omega
              by_cases hlt2 : q < k
              · obtain ⟨_, _, t2, _, _⟩ := TasksAt.below HTb.out hb (HB3.out.trans (HBL.out.mono hs3)) q hlt2
                have hj := hJ.out q hlt2
                have hbw : b < wr.heap.size := by omega
                have y0 : wr.cell? ⟨g, q, none⟩ = some (.int .i64 (R q)) := (HBL.out.cell (p := ⟨g, q, none⟩) HROW3.out.lt).trans (HROW3.out.cell hlt2)
                obtain ⟨he0, he1, _⟩ := topTo_spec (fun j => z - T.J j + R j) 20000 (by omega) q (fun j hj => hEB j (by omega))
                clear hEB
                by_cases hc : topTo (fun j => z - T.J j + R j) q < z - T.J q + R q
                · have bd : decide (topTo (fun j => z - T.J j + R j) q < z - T.J q + R q) = true := by simpa using hc
                  have he : topTo (fun j => z - T.J j + R j) (q + 1) = z - T.J q + R q := by rw [topTo, if_pos hc]
                  have HE : Hid (topTo (fun j => z - T.J j + R j) (q + 1) = z - T.J q + R q) := he
                  clear he
                  go_wp2
                  go_quiet (fail)
                  go_wp2
                  go_quiet (fail)
                  go_wp2
                  go_roundw
                  case rel => exact ⟨q + 1, by omega, by go_num, by rw [HE.out], below_drewM HBL.out _⟩
                  case measure => simp [intOf]; omega
                · have bd : decide (topTo (fun j => z - T.J j + R j) q < z - T.J q + R q) = false := by simpa using hc
                  have he : topTo (fun j => z - T.J j + R j) (q + 1) = topTo (fun j => z - T.J j + R j) q := by rw [topTo, if_neg hc]
                  have HE : Hid (topTo (fun j => z - T.J j + R j) (q + 1) = topTo (fun j => z - T.J j + R j) q) := he
                  clear he
                  go_wp2
                  go_quiet (fail)
                  go_wp2
                  go_roundw
                  case rel => exact ⟨q + 1, by omega, by go_num, by rw [HE.out], below_drewM HBL.out _⟩
                  case measure => simp [intOf]; omega
              · obtain rfl : q = k := by omega
                obtain ⟨he0, he1, he2⟩ := topTo_spec (fun j => z - T.J j + R j) 20000 (by omega) q hEB
                have HE2 : Hid (∀ j, j < q → z - T.J j + R j ≤ topTo (fun j => z - T.J j + R j) q) := he2
                clear he2 hEB
                obtain ⟨Bk, hBd, hBnd⟩ := bd_of HG.out HP.out HR.out HACC.out
                have HBD : Hid (Bd (sysOf T Z q) (fun i => R i - T.J i) Bk) := hBd
                have HBN : Hid (∀ i, i < q → BndOf (sysOf T Z q) (R i) (T.D i) i (Bk i)) := hBnd
                clear hBd hBnd
                generalize hEE : topTo (fun j => z - T.J j + R j) q = E at *
                obtain ⟨En, hEn⟩ : ∃ En : Nat, E = (En : Int) := ⟨E.toNat, by omega⟩
                subst hEn
                go_wp2_with (at_make; refine wpList_make_is _ rfl _ _ 26 rfl 3 i0 _ 1 8 Try.underlying26 hi0 hq0 hq1 hq2 _ _ _ _ q rfl rfl (by omega) (by omega) (by omega) (by omega) z1 zero_1 ?_)
                intro w4 hr4 hg4 hs4
                have hb4 : Below wr.heap.size wr w4 := (Below.refl _ _).grown hg4 (Nat.le_refl _) (fun k hk => by cases hk)
                have hr4' : w4.rowIs wr.heap.size 3 q z1 := by simpa using hr4
                have hgl3 := HROW3.out.lt
                have HRS4 : Hid (RS w.heap.size g wr.heap.size q R (fun _ => 0) kb (sysOf T Z q) Cad.start w4) :=
                  ⟨((HK3.out.below HBL.out).more (own' := fun p => p < w.heap.size ∨ p = g ∨ p = wr.heap.size) (by
                      rintro p (h | h | h)
                      · exact .inl (.inl h)
                      · exact .inl (.inr h)
                      · exact .inr (by omega))).below hb4, (HROW3.out.of_block (HBL.out.block _ hgl3)).of_block (hb4.block _ (by omega)), hr4', hgB, by omega, by omega, by have := hb4.size; omega⟩
                have HB4 : Hid (Below w.heap.size w w4) := (HB3.out.trans (HBL.out.mono hs3)).trans (hb4.mono (by omega))
                have HRC : Hid (Rch (sysOf T Z q) (fun i => R i - T.J i) Bk z 0 0 Cad.start (fun _ => 0)) := rch_start (syok_of HG.out HP.out) HBD.out (start_ok HG.out HP.out) HZ2.out
                clear hr4 hg4 hs4 hb4 hr4'
                generalize wr.heap.size = fb at *
                go_wp2_with fail
                go_loopw [14] (fun nv wr => ∃ (t : Nat) (m : Mc) (F : Nat → Int), t ≤ En ∧ nv = .int .i64 t ∧ RS w.heap.size g fb q R F kb (sysOf T Z q) m wr ∧ Rch (sysOf T Z q) (fun i => R i - T.J i) Bk z t 0 m F ∧ Below w.heap.size w wr) (fun nv _ => En - (intOf nv).toNat)
                case atStart => exact ⟨0, _, _, Nat.zero_le _, rfl, HRS4.out, HRC.out, HB4.out⟩
                case round =>
                  obtain ⟨t, m, F, ht, rfl, hrs, hrc, hbel⟩ := hrel
                  clear HRS4 HRC HB4 HBL HB3
                  have HRS : Hid (RS w.heap.size g fb q R F kb (sysOf T Z q) m wr) := hrs
                  have HRC : Hid (Rch (sysOf T Z q) (fun i => R i - T.J i) Bk z t 0 m F) := hrc
                  have HB : Hid (Below w.heap.size w wr) := hbel
                  clear hrs hrc hbel
                  by_cases htl : t < En
                  · have hcl : decide ((t : Int) < (En : Int)) = true := by simpa using htl
                    go_wp2_with fail
                    go_loopw [15] (fun iv wr => ∃ (i : Nat) (m : Mc), i ≤ q ∧ iv = .int .i64 i ∧ RS w.heap.size g fb q R F kb (sysOf T Z q) m wr ∧ Rch (sysOf T Z q) (fun i => R i - T.J i) Bk z t i m F ∧ Below w.heap.size w wr) (fun iv _ => q - (intOf iv).toNat)
                    case atStart => exact ⟨0, _, Nat.zero_le _, rfl, HRS.out, HRC.out, HB.out⟩
                    case round =>
                      clear HRS HRC HB m
                      obtain ⟨i, m, hi, rfl, hrs, hrc, hbel⟩ := hrel
                      have HRS : Hid (RS w.heap.size g fb q R F kb (sysOf T Z q) m wr) := hrs
                      have HRC : Hid (Rch (sysOf T Z q) (fun i => R i - T.J i) Bk z t i m F) := hrc
                      have HB : Hid (Below w.heap.size w wr) := hbel
                      have hsw := hbel.size
                      clear hrs hrc hbel
                      by_cases hlt3 : i < q
                      · obtain ⟨t0, t1, t2, t3, tp⟩ := TasksAt.below HTb.out hb HB.out i hlt3
                        have hL := (progB_inv (HG.out.prog i hlt3)).2.1
                        obtain ⟨pb, po, hA, hpb, hst⟩ := tp.2 (progB_inv (HG.out.prog i hlt3)).1
                        have HST : Hid (StepsAt wr pb po (T.L i) (T.K i) (T.N i)) := hst
                        have hjj := hJ.out i hlt3
                        have htm := HG.out.times i hlt3
                        rw [hA] at t3
                        have hbw : b < wr.heap.size := by omega
                        clear tp hst
                        by_cases c1 : (t : Int) = z - T.J i
                        · have bc1 : ((t : Int) == z - T.J i) = true := by simpa using c1
                          have HPR : Hid (Calls Try.prog 30 #[.slice (some ⟨pb, po, none⟩) (T.L i) (T.C i)] (wr.alloc (.cells #[.int .i64 (T.P i), .int .i64 (T.D i), .int .i64 (T.J i), .slice (some ⟨pb, po, none⟩) (T.L i) (T.C i)] 67)).drew fun e w' => ∃ v, e = .returned v ∧ w'.cell? ⟨wr.heap.size, 2, none⟩ = some (.int .i64 (T.J i)) ∧
                              Calls Try.prog 29 #[.pointer (some ⟨kb, 0, none⟩), .int .i64 i, .int .i64 (T.J i), v] w' fun e w'' => e = .returned (.int .i64 0) ∧ ∃ m', RS w.heap.size g fb q R F kb (sysOf T Z q) m' w'' ∧ Rch (sysOf T Z q) (fun i => R i - T.J i) Bk z t (i + 1) m' F ∧ Below w.heap.size w w'') := by
                            have hbd : Below wr.heap.size wr (wr.alloc (.cells #[.int .i64 (T.P i), .int .i64 (T.D i), .int .i64 (T.J i), .slice (some ⟨pb, po, none⟩) (T.L i) (T.C i)] 67)).drew := below_drewM (below_alloc1 _ _) 1
                            refine (pair_any HBD.out (HRS.out.below hbd) HRC.out hlt3 (by omega) pb po (T.C i) hL (fun k hk h1 => ?_) (by have := hbd.size; omega) (fun k hk => ⟨(hbd.cell hpb).trans (HST.out k hk).1, (hbd.cell hpb).trans (HST.out k hk).2⟩) (T.J i) (.inl ⟨c1, rfl⟩)).mono ?_
                            · rcases (progB_inv (HG.out.prog i hlt3)).2.2.2.steps k hk with h | h | h
                              · exact h.2.1
                              · have h1' : T.K i k = 1 := h1; omega
                              · have h1' : T.K i k = 1 := h1; omega
                            · rintro e w' ⟨v, he, hb', hc'⟩
                              refine ⟨v, he, ?_, hc'.mono ?_⟩
                              · rw [hb'.cell (p := ⟨wr.heap.size, 2, none⟩) (by simp)]
                                exact task_cell wr _ _ _ _
                              · rintro e w'' ⟨h1, m', h2, h3, h4⟩
                                exact ⟨h1, m', h2, h3, HB.out.trans ((hbd.mono hsw).trans h4)⟩
                          clear HST c1
                          go_wp2_with fail
                          go_region_with (first | (go_at_call 30; refine (HPR.out).mono ?_; rintro e w5 ⟨v5, rfl, x2, hc22⟩) | (go_at_call 29; refine hc22.mono ?_; rintro e w6 ⟨rfl, m', hrs', hrc', hb'⟩))
                          all_goals
                            have HRS' : Hid (RS w.heap.size g fb q R F kb (sysOf T Z q) m' w6) := hrs'
                            have HRC' : Hid (Rch (sysOf T Z q) (fun i => R i - T.J i) Bk z t (i + 1) m' F) := hrc'
                            have HB' : Hid (Below w.heap.size w w6) := hb'
                            clear hc22 hrs' hrc' hb' HPR
                            go_wp2
                            go_roundw
                            case rel => exact ⟨i + 1, m', by omega, by go_num, HRS'.out, HRC'.out, HB'.out⟩
                            case measure => simp [intOf]; omega
                        · have bc1 : ((t : Int) == z - T.J i) = false := by simpa using c1
                          by_cases c2 : z - T.J i < (t : Int)
                          · have bc2 : decide (z - T.J i < (t : Int)) = true := by simpa using c2
                            by_cases c3 : ((t : Int) - (z - T.J i)) % T.P i = 0
                            · have bc3 : (((t : Int) - (z - T.J i)) % T.P i == 0) = true := by rw [c3]; rfl
                              have HPR : Hid (Calls Try.prog 30 #[.slice (some ⟨pb, po, none⟩) (T.L i) (T.C i)] (wr.alloc (.cells #[.int .i64 (T.P i), .int .i64 (T.D i), .int .i64 (T.J i), .slice (some ⟨pb, po, none⟩) (T.L i) (T.C i)] 67)) fun e w' => ∃ v, e = .returned v ∧
                                  Calls Try.prog 29 #[.pointer (some ⟨kb, 0, none⟩), .int .i64 i, .int .i64 0, v] w' fun e w'' => e = .returned (.int .i64 0) ∧ ∃ m', RS w.heap.size g fb q R F kb (sysOf T Z q) m' w'' ∧ Rch (sysOf T Z q) (fun i => R i - T.J i) Bk z t (i + 1) m' F ∧ Below w.heap.size w w'') := by
                                have hbd : Below wr.heap.size wr (wr.alloc (.cells #[.int .i64 (T.P i), .int .i64 (T.D i), .int .i64 (T.J i), .slice (some ⟨pb, po, none⟩) (T.L i) (T.C i)] 67)) := below_alloc1 _ _
                                refine (pair_any HBD.out (HRS.out.below hbd) HRC.out hlt3 (by omega) pb po (T.C i) hL (fun k hk h1 => ?_) (by have := hbd.size; omega) (fun k hk => ⟨(hbd.cell hpb).trans (HST.out k hk).1, (hbd.cell hpb).trans (HST.out k hk).2⟩) 0 (.inr ⟨c2, c3, rfl⟩)).mono ?_
                                · rcases (progB_inv (HG.out.prog i hlt3)).2.2.2.steps k hk with h | h | h
                                  · exact h.2.1
                                  · have h1' : T.K i k = 1 := h1; omega
                                  · have h1' : T.K i k = 1 := h1; omega
                                · rintro e w' ⟨v, he, hb', hc'⟩
                                  refine ⟨v, he, hc'.mono ?_⟩
                                  rintro e w'' ⟨h1, m', h2, h3, h4⟩
                                  exact ⟨h1, m', h2, h3, HB.out.trans ((hbd.mono hsw).trans h4)⟩
                              clear HST c1 c3
                              go_wp2_with fail
                              refine (HPR.out).mono ?_
                              rintro e w5 ⟨v5, rfl, hc29⟩
                              have HC29 : Hid (Calls Try.prog 29 #[.pointer (some ⟨kb, 0, none⟩), .int .i64 i, .int .i64 0, v5] w5 fun e w'' => e = .returned (.int .i64 0) ∧ ∃ m', RS w.heap.size g fb q R F kb (sysOf T Z q) m' w'' ∧ Rch (sysOf T Z q) (fun i => R i - T.J i) Bk z t (i + 1) m' F ∧ Below w.heap.size w w'') := hc29
                              clear hc29 HPR
                              go_wp2_with fail
                              refine (HC29.out).mono ?_
                              rintro e w6 ⟨rfl, m', hrs', hrc', hb'⟩
                              have HRS' : Hid (RS w.heap.size g fb q R F kb (sysOf T Z q) m' w6) := hrs'
                              have HRC' : Hid (Rch (sysOf T Z q) (fun i => R i - T.J i) Bk z t (i + 1) m' F) := hrc'
                              have HB' : Hid (Below w.heap.size w w6) := hb'
                              clear hrs' hrc' hb' HC29
                              go_wp2
                              go_roundw
                              case rel => exact ⟨i + 1, m', by omega, by go_num, HRS'.out, HRC'.out, HB'.out⟩
                              case measure => simp [intOf]; omega
                            · have HSK : Hid (Rch (sysOf T Z q) (fun i => R i - T.J i) Bk z t (i + 1) m F) := rch_skip HBD.out HRC.out hlt3 c1 (fun h => c3 h.2)
                              have bc3 : (((t : Int) - (z - T.J i)) % T.P i == 0) = false := beq_eq_false_iff_ne.2 c3
                              clear HST c1 c3
                              go_wp2
                              go_roundw
                              case rel => exact ⟨i + 1, m, by omega, by go_num, HRS.out.below (below_alloc1 _ _), HSK.out, HB.out.alloc hsw _⟩
                              case measure => simp [intOf]; omega
                          · have bc2 : decide (z - T.J i < (t : Int)) = false := by simpa using c2
                            have HSK : Hid (Rch (sysOf T Z q) (fun i => R i - T.J i) Bk z t (i + 1) m F) := rch_skip HBD.out HRC.out hlt3 c1 (fun h => c2 h.1)
                            clear HST
                            go_wp2
                            go_roundw
                            case rel => exact ⟨i + 1, m, by omega, by go_num, HRS.out.below (below_alloc1 _ _), HSK.out, HB.out.alloc hsw _⟩
                            case measure => simp [intOf]; omega
                      · obtain rfl : i = q := by omega
                        have HTK := rch_tick (syok_of HG.out HP.out) HBD.out HRC.out (by omega) hz0 (fun a ha => no_block HG.out HNO.out (HBN.out a ha)) (fun a ha u h1 h2 => (HBN.out a ha).2.2.2.2 u h1 h2)
                        have hmt : m.now < 1000000000000000000 := by rw [HRC.out.time]; omega
                        by_cases hdn : (tick (sysOf T Z i) m).2.2 = true
                        · obtain ⟨a, ha, ea, h1, h2⟩ := HTK.2 hdn
                          have ha' : a < i := ha
                          have HTC : Hid (Calls Try.prog 25 #[.pointer (some ⟨kb, 0, none⟩)] wr fun e w' => e = .returned (.tuple #[.int .i64 a, .bool true]) ∧ w'.cell? ⟨fb, a, none⟩ = some (.int .i64 (F a)) ∧ w'.frozen? ⟨fb, a, none⟩ = false ∧ RS w.heap.size g fb i R F kb (sysOf T Z i) (tick (sysOf T Z i) m).1 w' ∧ Below w.heap.size w w') := by
                            refine (rs_tick HRS.out hmt).mono ?_
                            rintro e w' ⟨he, hr', hb'⟩
                            rw [ea, hdn] at he
                            exact ⟨he, hr'.rf.cell ha', hr'.rf.frozen a, hr', HB.out.trans hb'⟩
                          have H1 : Hid (F a ≠ 0 → Rch (sysOf T Z i) (fun i => R i - T.J i) Bk z (t + 1) 0 (tick (sysOf T Z i) m).1 F) := h1
                          have H2 : Hid (F a = 0 → Rch (sysOf T Z i) (fun i => R i - T.J i) Bk z (t + 1) 0 (tick (sysOf T Z i) m).1 (upd F a (t + 1))) := h2
                          clear HTK ea h1 h2 hdn hmt ha HRS HRC HB
                          generalize (tick (sysOf T Z i) m).1 = m' at *
                          go_wp2_with fail
                          refine (HTC.out).mono ?_
                          rintro e w5 ⟨rfl, y0, z0, hrs', hb'⟩
                          have HRS' : Hid (RS w.heap.size g fb i R F kb (sysOf T Z i) m' w5) := hrs'
                          have HB' : Hid (Below w.heap.size w w5) := hb'
                          clear hrs' hb' HTC
                          by_cases hf0 : F a = 0
                          · have bf : (F a == 0) = true := by simpa using hf0
                            have HSET := HRS'.out.set a ((t : Int) + 1)
                            go_wp2
                            go_roundw
                            case rel => exact ⟨t + 1, m', upd F a ((t : Int) + 1), by omega, by go_num, HSET.1, H2.out hf0, HB'.out.trans HSET.2⟩
                            case measure => simp [intOf]; omega
                          · have bf : (F a == 0) = false := by simpa using hf0
                            go_wp2
                            go_roundw
                            case rel => exact ⟨t + 1, m', F, by omega, by go_num, HRS'.out, H1.out hf0, HB'.out⟩
                            case measure => simp [intOf]; omega
                        · have hdf : (tick (sysOf T Z i) m).2.2 = false := by simpa using hdn
                          have H1 : Hid (Rch (sysOf T Z i) (fun i => R i - T.J i) Bk z (t + 1) 0 (tick (sysOf T Z i) m).1 F) := HTK.1 hdf
                          have HTC : Hid (Calls Try.prog 25 #[.pointer (some ⟨kb, 0, none⟩)] wr fun e w' => e = .returned (.tuple #[.int .i64 (tick (sysOf T Z i) m).2.1, .bool false]) ∧ RS w.heap.size g fb i R F kb (sysOf T Z i) (tick (sysOf T Z i) m).1 w' ∧ Below w.heap.size w w') := by
                            refine (rs_tick HRS.out hmt).mono ?_
                            rintro e w' ⟨he, hr', hb'⟩
                            rw [hdf] at he
                            exact ⟨he, hr', HB.out.trans hb'⟩
                          clear HTK hdf hdn hmt HRS HRC HB
                          generalize (tick (sysOf T Z i) m).2.1 = xx at *
                          generalize (tick (sysOf T Z i) m).1 = m' at *
                          go_wp2_with fail
                          refine (HTC.out).mono ?_
                          rintro e w5 ⟨rfl, hrs', hb'⟩
                          have HRS' : Hid (RS w.heap.size g fb i R F kb (sysOf T Z i) m' w5) := hrs'
                          have HB' : Hid (Below w.heap.size w w5) := hb'
                          clear hrs' hb' HTC
                          go_wp2
                          go_roundw
                          case rel => exact ⟨t + 1, m', F, by omega, by go_num, HRS'.out, H1.out, HB'.out⟩
                          case measure => simp [intOf]; omega
                  · obtain rfl : t = En := by omega
                    go_wp2_with fail
                    go_loopw [21] (fun iv wr => ∃ i : Nat, i ≤ q ∧ iv = .int .i64 i ∧ RS w.heap.size g fb q R F kb (sysOf T Z q) m wr ∧ Below w.heap.size w wr) (fun iv _ => q - (intOf iv).toNat)
                    case atStart => exact ⟨0, Nat.zero_le _, rfl, HRS.out, HB.out⟩
                    case round =>
                      obtain ⟨i, hi, rfl, hrs, hbel⟩ := hrel
                      clear HRS HB
                      have HRS : Hid (RS w.heap.size g fb q R F kb (sysOf T Z q) m wr) := hrs
                      have HB : Hid (Below w.heap.size w wr) := hbel
                      have hsw := hbel.size
                      clear hrs hbel
                      by_cases hlt3 : i < q
                      · obtain ⟨_, _, t2, _, _⟩ := TasksAt.below HTb.out hb HB.out i hlt3
                        have hjj := hJ.out i hlt3
                        have y0 : wr.cell? ⟨g, i, none⟩ = some (.int .i64 (R i)) := HRS.out.rg.cell hlt3
                        have hFi : F i = z - T.J i + R i := by
                          have h1 := HE2.out i hlt3
                          have := rch_end HBD.out HRC.out (j := i) hlt3 (by show z + (R i - T.J i) ≤ _; omega)
                          have h2 : F i = z + (R i - T.J i) := this
                          omega
                        have y1 : wr.cell? ⟨fb, i, none⟩ = some (.int .i64 (z - T.J i + R i)) := by rw [← hFi]; exact HRS.out.rf.cell hlt3
                        have bd : ((z - T.J i + R i) != (z - T.J i + R i)) = false := by simp
                        have hbw : b < wr.heap.size := by omega
                        clear hFi
                        go_wp2
                        go_quiet (fail)
                        go_wp2
                        go_roundw
                        case rel => exact ⟨i + 1, by omega, by go_num, HRS.out.below (below_drewM (Below.refl _ _) _), below_drewM HB.out _⟩
                        case measure => simp [intOf]; omega
                      · obtain rfl : i = q := by omega
                        go_wp2
                        go_ret
                        exact ⟨rfl, HB.out⟩
    · have hd : decide (∀ i, i < pn → 0 < R i) = false := by simpa using hacc
      rw [hd]
      clear hd
      go_wp2
      go_ret
      exact ⟨rfl, HB2.out⟩

end Go.Proofs.Ytdabcflpcklfiaa
