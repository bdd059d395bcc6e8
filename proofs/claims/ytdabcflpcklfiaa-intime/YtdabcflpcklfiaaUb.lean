import Derived.Test.YtdabcflpcklfiaaUa
/- The law InTime, walked. -/
namespace Go.Proofs.Ytdabcflpcklfiaa
open Go.RowKit Cad

theorem field_now (x y : Int) (w : World) : (Instr.field 61 (.agg #[.int .i64 x, .int .i64 y]) 0).run Try.prog w = .ok (.int .i64 x) w := by kernel_rfl

set_option maxRecDepth 100000 in
set_option maxHeartbeats 4000000 in
theorem law8_any (so ao xo : Option Addr) (n cap pn pc sn xc : Nat) (T : TD) (Z : Nat → Int) (X : SD) (w : World) (hm : n ≤ 9223372036854775806) (hsn : sn ≤ 3000000000000) (hT : 1 ≤ n → ∃ b off, so = some ⟨b, off, none⟩ ∧ b < w.heap.size ∧ TasksAt w b off n T)
    (hZ : 1 ≤ pn → ∃ pb po, ao = some ⟨pb, po, none⟩ ∧ pb < w.heap.size ∧ IntsAt w pb po pn Z) (hX : 1 ≤ sn → ∃ xb xf, xo = some ⟨xb, xf, none⟩ ∧ xb < w.heap.size ∧ ScriptAt w xb xf sn X) :
    Calls Try.prog 8 #[.slice so n cap, .slice ao pn pc, .slice xo sn xc] w fun e w' => e = .returned (.bool true) ∧ Below w.heap.size w w' := by
  have HT : Hid (1 ≤ n → ∃ b off, so = some ⟨b, off, none⟩ ∧ b < w.heap.size ∧ TasksAt w b off n T) := hT
  have HZ : Hid (1 ≤ pn → ∃ pb po, ao = some ⟨pb, po, none⟩ ∧ pb < w.heap.size ∧ IntsAt w pb po pn Z) := hZ
  have HX : Hid (1 ≤ sn → ∃ xb xf, xo = some ⟨xb, xf, none⟩ ∧ xb < w.heap.size ∧ ScriptAt w xb xf sn X) := hX
  clear hT hZ hX
  go_enter Try.func8, Try.ntmps8
  go_wp2_with fail
  refine (opened_any so ao n cap pn pc T Z w (by omega) HT.out HZ.out).mono ?_
  rintro e w1 (⟨rfl, hb1⟩ | ⟨kb, g, R, rfl, hG, hP, rfl, hgB, hrow, hR, hk, hb1⟩)
  · have HB1 : Hid (Below w.heap.size w w1) := hb1
    clear hb1
    go_wp2
    go_ret
    exact ⟨rfl, HB1.out⟩
  · have h8 := hG.eight
    have h1n := hG.one
    obtain ⟨b, off, rfl, hb, hTb⟩ := HT.out h1n
    have HTb : Hid (TasksAt w b off pn T) := hTb
    have HG : Hid (Good T pn) := hG
    have HP : Hid (PrioB Z pn) := hP
    have HROW : Hid (w1.rowIs g 3 pn (fun q => .int .i64 (R q))) := hrow
    have HR : Hid (∀ i, i < pn → CodeB T Z pn i (R i)) := hR
    have HK : Hid (KSt (fun q => q < w.heap.size ∨ q = g) w1 kb (sysOf T Z pn) Cad.start) := hk
    have HB1 : Hid (Below w.heap.size w w1) := hb1
    clear hTb hG hP hrow hR hk hb1 HT HZ
    go_wp2_with fail
    refine (accepted_any g pn pn R _ w1 h8 HROW.out rfl).mono ?_
    rintro e w2 ⟨rfl, hb2⟩
    have hs1 := HB1.out.size
    have HB2 : Hid (Below w.heap.size w w2) := HB1.out.trans (hb2.mono hs1)
    have HROW2 : Hid (w2.rowIs g 3 pn (fun q => .int .i64 (R q))) := HROW.out.of_block (hb2.block _ HROW.out.lt)
    have HK2 : Hid (KSt (fun q => q < w.heap.size ∨ q = g) w2 kb (sysOf T Z pn) Cad.start) := HK.out.below hb2
    clear hb2 HB1 HROW HK
    by_cases hacc : ∀ i, i < pn → 0 < R i
    · have hd : decide (∀ i, i < pn → 0 < R i) = true := by simpa using hacc
      rw [hd]
      have HACC : Hid (∀ i, i < pn → 0 < R i) := hacc
      clear hacc hd
      obtain ⟨Bk, hBd, hBnd⟩ := bd_of HG.out HP.out HR.out HACC.out
      have HBD : Hid (Bd (sysOf T Z pn) (fun i => R i - T.J i) Bk) := hBd
      have HRD : Hid (∀ i, i < pn → 0 < R i ∧ R i ≤ T.D i ∧ R i ≤ 10000) := fun i hi => by
        have h1 := (hBnd i hi).2.2.1
        have h2 := HG.out.times i hi
        exact ⟨HACC.out i hi, h1, by omega⟩
      have HRW : Hid (∀ t, t < (sysOf T Z pn).n → R t = (R t - T.J t) + (sysOf T Z pn).J t) := fun t _ => by show R t = R t - T.J t + T.J t; omega
      have HSY : Hid (SyOk (sysOf T Z pn)) := syok_of HG.out HP.out
      have hs2 := HB2.out.size
      have HIT2 : Hid (IT w.heap.size g pn kb R (fun i => R i - T.J i) Bk (sysOf T Z pn) Cad.start w2) := ⟨HK2.out, HROW2.out, hgB, hs2, t_start HSY.out hBd, keptIn_start _ _⟩
      clear hBd hBnd HK2 HROW2 HACC
      go_wp2_with fail
      go_loopw [11] (fun iv wr => ∃ (i : Nat) (m : Mc), i ≤ sn ∧ iv = .int .i64 i ∧ IT w.heap.size g pn kb R (fun i => R i - T.J i) Bk (sysOf T Z pn) m wr ∧ (m.now ≤ 40 * (i : Int) ∧ m.arrd ≤ i) ∧ Below w.heap.size w wr) (fun iv _ => sn - (intOf iv).toNat)
      case atStart => exact ⟨0, _, Nat.zero_le _, rfl, HIT2.out, by simp [Cad.start], HB2.out⟩
      case round =>
        clear HIT2 HB2
        obtain ⟨i, m, hi, rfl, hit, hna, hbel⟩ := hrel
        have HIT : Hid (IT w.heap.size g pn kb R (fun i => R i - T.J i) Bk (sysOf T Z pn) m wr) := hit
        have HB : Hid (Below w.heap.size w wr) := hbel
        have HNA : Hid (m.now ≤ 40 * (i : Int) ∧ m.arrd ≤ i) := hna
        clear hit hbel hna
        by_cases hlt : i < sn
        · obtain ⟨xb, xf, rfl, hxb, hxs⟩ := HX.out (by omega)
          have hsz := HB.out.size
          obtain ⟨x0, x1, x2, x3, hi0, hi1, hi2, hraw⟩ := hxs.below hxb HB.out i hlt
          have HAR : Hid (∀ w', Below wr.heap.size wr w' → Calls Try.prog 24 #[.pointer (some ⟨kb, 0, none⟩), .slice (some ⟨b, off, none⟩) pn cap, .agg #[.int .i64 (X.T i), .int .i64 (X.J i), .int .i64 (X.U i), .slice (X.A i) (X.L i) (X.C i)]] w' fun e w'' => ∃ v m', e = .returned v ∧ IT w.heap.size g pn kb R (fun i => R i - T.J i) Bk (sysOf T Z pn) m' w'' ∧ (m'.now ≤ 40 * (i : Int) ∧ m'.arrd ≤ i + 1) ∧ Below w.heap.size w w'') := by
            intro w' hb'
            have hbw' : Below w.heap.size w w' := HB.out.trans (hb'.mono hsz)
            have hit' := HIT.out.below hb'
            refine (arrives_any (Z := Z) (X.T i) (X.J i) (X.U i) HG.out hit'.own (.inl hb) hit'.k (by have := HNA.out.2; omega) (TasksAt.below HTb.out hb hbw') hi0 hi1 (hraw.below hb')).mono ?_
            rintro e w'' ⟨he, hk, hf⟩
            obtain ⟨h1, h2⟩ := hit'.fr hk hf (t_arrive HBD.out hit'.t _ _ _ _) (keptIn_arrive hit'.kept _ _ _ _)
            have hna := now_arrive (sysOf T Z pn) m (tkOf pn (X.T i) : Int) (jitOf T (tkOf pn (X.T i)) (X.J i)) (fun q => (demOf T (tkOf pn (X.T i)) (X.R i) (X.L i)).getD q 0) (demOf T (tkOf pn (X.T i)) (X.R i) (X.L i)).length
            refine ⟨_, _, he, h1, ⟨?_, ?_⟩, hbw'.trans h2⟩
            · show (stepA T Z pn m (X.T i) (X.J i) (X.R i) (X.L i)).1.now ≤ _
              unfold stepA
              rw [hna.1]; exact HNA.out.1
            · show (stepA T Z pn m (X.T i) (X.J i) (X.R i) (X.L i)).1.arrd ≤ _
              unfold stepA
              have := HNA.out.2
              omega
          have HPK : Hid (∀ w', Calls Try.prog 21 #[.int .i64 (X.U i), .int .i64 41] w' fun e w'' => e = .returned (.int .i64 (pickI (X.U i) 41)) ∧ w'' = w') := fun w' => pick_any _ _ w' hi2 (by omega) (by omega)
          have hpk := pickI_range (c := X.U i) (n := 41) (by omega)
          have HXS : Hid (∀ w', Below w.heap.size w w' → w'.cell? ⟨xb, xf + i * 4 + 2, none⟩ = some (.int .i64 (X.U i))) := fun w' hb' => (hxs.below hxb hb' i hlt).2.2.1
          obtain ⟨uq, huq⟩ : ∃ uq : Nat, pickI (X.U i) 41 = (uq : Int) := ⟨(pickI (X.U i) 41).toNat, by omega⟩
          rw [huq] at hpk
          have HUQ : Hid (∀ w', Calls Try.prog 21 #[.int .i64 (X.U i), .int .i64 41] w' fun e w'' => e = .returned (.int .i64 (uq : Int)) ∧ w'' = w') := by
            have := HPK.out
            rw [huq] at this
            exact this
          have hxw : xb < wr.heap.size := by omega
          clear hxs hraw hi0 hi1 hi2 HPK huq HIT HB HNA
          go_wp2_with fail
          refine (HAR.out _ (Below.refl _ _)).mono ?_
          rintro e w3 ⟨v3, m3, rfl, hit3, hna3, hb3⟩
          have x2' := HXS.out _ hb3
          have hs3 := hb3.size
          have hxw3 : xb < w3.heap.size := by omega
          have HIT3 : Hid (IT w.heap.size g pn kb R (fun i => R i - T.J i) Bk (sysOf T Z pn) m3 w3) := hit3
          have HB3 : Hid (Below w.heap.size w w3) := hb3
          have HNA3 : Hid (m3.now ≤ 40 * (i : Int) ∧ m3.arrd ≤ i + 1) := hna3
          clear hit3 hna3 hb3 HAR x0 x1 x2 x3 HXS
          go_wp2_with fail
          refine (HUQ.out _).mono ?_
          rintro e w4 ⟨rfl, rfl⟩
          clear HUQ x2'
          go_wp2_with fail
          go_loopw [12] (fun nv wr => ∃ (q : Nat) (m : Mc), q ≤ uq ∧ nv = .int .i64 q ∧ IT w.heap.size g pn kb R (fun i => R i - T.J i) Bk (sysOf T Z pn) m wr ∧ (m.now + q ≤ 40 * ((i : Int) + 1) ∧ m.arrd ≤ i + 1) ∧ Below w.heap.size w wr) (fun nv _ => (intOf nv).toNat)
          case atStart => exact ⟨uq, m3, Nat.le_refl _, rfl, HIT3.out, ⟨by have := HNA3.out.1; omega, HNA3.out.2⟩, HB3.out⟩
          case round =>
            clear HIT3 HB3 HNA3
            obtain ⟨q, m4, hq, rfl, hit4, hna4, hb4⟩ := hrel
            have HIT4 : Hid (IT w.heap.size g pn kb R (fun i => R i - T.J i) Bk (sysOf T Z pn) m4 wr) := hit4
            have HB4 : Hid (Below w.heap.size w wr) := hb4
            have HNA4 : Hid (m4.now + q ≤ 40 * ((i : Int) + 1) ∧ m4.arrd ≤ i + 1) := hna4
            clear hit4 hb4 hna4
            by_cases hq0 : 0 < q
            · have bq : decide ((0 : Int) < (q : Int)) = true := by simp; omega
              go_wp2_with fail
              refine (it_tick HSY.out HBD.out HRW.out HIT4.out (by have := HNA4.out.1; omega)).mono ?_
              rintro e w5 ⟨⟨v5, rfl⟩, hit5, hb5⟩
              have HIT5 : Hid (IT w.heap.size g pn kb R (fun i => R i - T.J i) Bk (sysOf T Z pn) (tick (sysOf T Z pn) m4).1 w5) := hit5
              have HB5 : Hid (Below w.heap.size w w5) := HB4.out.trans hb5
              have hnt := now_tick (sysOf T Z pn) m4
              have HNA5 : Hid ((tick (sysOf T Z pn) m4).1.now + ((q - 1 : Nat) : Int) ≤ 40 * ((i : Int) + 1) ∧ (tick (sysOf T Z pn) m4).1.arrd ≤ i + 1) := ⟨by have := HNA4.out.1; rw [hnt.1]; omega, by rw [hnt.2]; exact HNA4.out.2⟩
              clear hit5 hb5 hnt
              generalize (tick (sysOf T Z pn) m4).1 = m5 at *
              go_wp2
              go_roundw
              case rel => exact ⟨q - 1, m5, by omega, by go_num, HIT5.out, HNA5.out, HB5.out⟩
              case measure => simp [intOf]; omega
            · obtain rfl : q = 0 := by omega
              have hs4 := HB4.out.size
              go_wp2_with fail
              refine (kst_jobs sort_recs HIT4.out.own HIT4.out.k).mono ?_
              rintro e w5 ⟨gj, l, rfl, hgj, hrj, hperm, _, hk5, hf5⟩
              have HREC : Hid (∀ r ∈ l, ∃ a, RecIn pn m4.now R r a) := recIn_all HIT4.out.k.ok HIT4.out.t HRW.out HIT4.out.kept hperm
              have hll : l.length ≤ 104 := by
                rw [hperm.length_eq]
                have h1 := HIT4.out.k.ok.keptn
                have h2 := allKeys_len HIT4.out.k.ok
                have h3 : ((List.range (sysOf T Z pn).n).flatMap fun t => (m4.q t).map (openRc t)).length = (allKeys (sysOf T Z pn) m4).length := by rw [← recs_keys, List.length_map]
                unfold allRecs
                rw [List.length_append, h3]
                omega
              obtain ⟨hit5, hb5⟩ := HIT4.out.fr (hk5.more (fun q h => .inl (.inl h))) hf5 HIT4.out.t HIT4.out.kept
              have hgb5 : gj < w5.heap.size := hrj.lt
              have HK5 : Hid (KSt (fun q => (q < w.heap.size ∨ q = g) ∨ q = gj) w5 kb (sysOf T Z pn) m4) := hk5
              have HIT5 : Hid (IT w.heap.size g pn kb R (fun i => R i - T.J i) Bk (sysOf T Z pn) m4 w5) := hit5
              have HB5 : Hid (Below w.heap.size w w5) := HB4.out.trans hb5
              have HRJ : Hid (w5.rowIs gj 64 (l.length * 5) (jobF l)) := hrj
              clear hrj hperm hk5 hf5 hit5 hb5
              go_wp2_with fail
              refine (kst_look (own := fun q => (q < w.heap.size ∨ q = g) ∨ q = gj) (by
                rintro q (h | h)
                · exact HIT5.out.own q h
                · rw [h]; exact hgb5) HK5.out).mono ?_
              rintro e w6 ⟨rfl, hk6, hf6⟩
              have HRJ6 : Hid (w6.rowIs gj 64 (l.length * 5) (jobF l)) := hf6.row HRJ.out (fun h => h (.inr rfl))
              obtain ⟨hit6, hb6⟩ := HIT5.out.fr (hk6.more (fun q h => .inl (.inl h))) (hf6.mono (fun q hq h => hq (.inl h))) HIT5.out.t HIT5.out.kept
              have HIT6 : Hid (IT w.heap.size g pn kb R (fun i => R i - T.J i) Bk (sysOf T Z pn) m4 w6) := hit6
              have HB6 : Hid (Below w.heap.size w w6) := HB5.out.trans hb6
              clear hk6 hf6 hit6 hb6 HIT5 HB5 HRJ HK5 HIT4 HB4
              have hnow0 := HIT6.out.k.ok.now0
              have hfn := field_now
              have hnow1 : m4.now ≤ 1000000000000000 := by have := HNA4.out.1; omega
              go_wp2_with fail
              go_loopw [15] (fun jv wr => ∃ (j : Nat), j ≤ l.length ∧ jv = .int .i64 j ∧ wr.rowIs gj 64 (l.length * 5) (jobF l) ∧ IT w.heap.size g pn kb R (fun i => R i - T.J i) Bk (sysOf T Z pn) m4 wr ∧ Below w.heap.size w wr) (fun jv _ => l.length - (intOf jv).toNat)
              case atStart => exact ⟨0, Nat.zero_le _, rfl, HRJ6.out, HIT6.out, HB6.out⟩
              case round =>
                clear HRJ6 HIT6 HB6
                obtain ⟨j, hj, rfl, hrj, hit7, hb7⟩ := hrel
                have HRJ7 : Hid (wr.rowIs gj 64 (l.length * 5) (jobF l)) := hrj
                have HIT7 : Hid (IT w.heap.size g pn kb R (fun i => R i - T.J i) Bk (sysOf T Z pn) m4 wr) := hit7
                have HB7 : Hid (Below w.heap.size w wr) := hb7
                have hs7 := hb7.size
                by_cases hjl : j < l.length
                · obtain ⟨r, hr⟩ : ∃ r, l[j]? = some r := ⟨_, List.getElem?_eq_getElem hjl⟩
                  obtain ⟨a, hra⟩ := HREC.out r (List.mem_of_getElem? hr)
                  have ha := hra.lt
                  have cc : ∀ c u, c < 5 → (recC r)[c]? = some u → wr.cell? ⟨gj, j * 5 + c, none⟩ = some u := fun c u hc hu => by
                    rw [hrj.cell (by omega)]
                    unfold jobF
                    rw [show (j * 5 + c) / 5 = j from by omega, show (j * 5 + c) % 5 = c from by omega, List.getD_eq_getElem?_getD, keptC_at hr c (by omega), hu]
                    rfl
                  have y0 : wr.cell? ⟨gj, j * 5, none⟩ = some (.int .i64 (a : Int)) := by rw [← hra.task]; exact cc 0 _ (by omega) rfl
                  have y1 : wr.cell? ⟨gj, j * 5 + 1, none⟩ = some (.int .i64 r.arr) := cc 1 _ (by omega) rfl
                  have y3 : wr.cell? ⟨gj, j * 5 + 3, none⟩ = some (.int .i64 r.done) := cc 3 _ (by omega) rfl
                  have yb : wr.cell? ⟨g, a, none⟩ = some (.int .i64 (R a)) := hit7.rg.cell ha
                  obtain ⟨_, yd, _⟩ := TasksAt.below HTb.out hb hb7 a ha
                  have hrd := HRD.out a ha
                  have harr0 := hra.arr0
                  have harr1 := hra.arr1
                  have hin := hra.inT
                  have hgjl := hrj.lt
                  have hgl := hit7.rg.lt
                  have hbl : b < wr.heap.size := by omega
                  clear hrj hit7 hb7 cc hra hr hfn
                  have bneg : decide ((a : Int) < 0) = false := decide_eq_false (by omega)
                  have bge : decide ((pn : Int) ≤ (a : Int)) = false := decide_eq_false (by omega)
                  have bdl : decide (T.D a < R a) = false := decide_eq_false (by omega)
                  rcases hin with ⟨hd0, hd1⟩ | ⟨hd0, hd1⟩
                  · have q0 : decide (0 ≤ r.done) = true := by simpa using hd0
                    have q1 : decide (r.arr + R a < r.done) = false := decide_eq_false (by omega)
                    have q2 : decide (r.done < 0) = false := decide_eq_false (by omega)
                    generalize r.done = rd at *
                    generalize r.arr = ra at *
                    go_wp2_with fail
                    go_quiet (fail)
                    go_wp2
                    go_roundw
                    case rel => exact ⟨j + 1, by omega, by go_num, HRJ7.out, HIT7.out.below (below_drewM (Below.refl _ _) _), below_drewM HB7.out _⟩
                    case measure => simp [intOf]; omega
                  · rw [hd0] at y3
                    have q1 : decide (r.arr + R a ≤ m4.now) = false := decide_eq_false (by omega)
                    clear hd0
                    generalize r.arr = ra at *
                    generalize m4.now = nw at *
                    go_wp2_with fail
                    go_quiet (fail)
                    go_wp2
                    go_roundw
                    case rel => exact ⟨j + 1, by omega, by go_num, HRJ7.out, HIT7.out.below (below_drewM (Below.refl _ _) _), below_drewM HB7.out _⟩
                    case measure => simp [intOf]; omega
                · obtain rfl : j = l.length := by omega
                  clear hrj hit7 hb7
                  go_wp2
                  go_roundw
                  case rel => exact ⟨i + 1, m4, by omega, by go_num, HIT7.out, ⟨by have := HNA4.out.1; omega, by have := HNA4.out.2; omega⟩, HB7.out⟩
                  case measure => simp [intOf]; omega
        · obtain rfl : i = sn := by omega
          go_wp2
          go_ret
          exact ⟨rfl, HB.out⟩
    · have hd : decide (∀ i, i < pn → 0 < R i) = false := by simpa using hacc
      rw [hd]
      clear hd hacc
      go_wp2_with fail
      go_loopw [11] (fun iv wr => iv = .int .i64 0 ∧ Below w.heap.size w wr) (fun _ _ => 0)
      case atStart => exact ⟨rfl, HB2.out⟩
      case round =>
        obtain ⟨rfl, hbel⟩ := hrel
        have HBL : Hid (Below w.heap.size w wr) := hbel
        clear hbel
        by_cases hs0 : 0 < sn
        · have b0 : decide ((0 : Int) < (sn : Int)) = true := decide_eq_true (by omega)
          go_wp2
          go_ret
          exact ⟨rfl, HBL.out⟩
        · have b0 : decide ((0 : Int) < (sn : Int)) = false := decide_eq_false (by omega)
          go_wp2
          go_ret
          exact ⟨rfl, HBL.out⟩

end Go.Proofs.Ytdabcflpcklfiaa
