import Derived.Test.YtdabcflpcklfiaaGreatVo
import Derived.Test.YtdabcflpcklfiaaGreatVq
import Derived.Test.YtdabcflpcklfiaaGreatVr
import Derived.Test.YtdabcflpcklfiaaGreatCc
import Derived.Test.YtdabcflpcklfiaaGreatSc
/- The law Counted, walked. -/
namespace Go.Proofs.YtdabcflpcklfiaaGreat
open Go.RowKit Cad

set_option maxRecDepth 100000 in
set_option maxHeartbeats 4000000 in
theorem law4_any (so ao xo : Option Addr) (n cap pn pc sn xc : Nat) (T : TD) (Z : Nat → Int) (X : SD) (w : World) (hm : n ≤ 9223372036854775806) (hsn : sn ≤ 3000000000000) (hT : 1 ≤ n → ∃ b off, so = some ⟨b, off, none⟩ ∧ b < w.heap.size ∧ TasksAt w b off n T)
    (hZ : 1 ≤ pn → ∃ pb po, ao = some ⟨pb, po, none⟩ ∧ pb < w.heap.size ∧ IntsAt w pb po pn Z) (hX : 1 ≤ sn → ∃ xb xf, xo = some ⟨xb, xf, none⟩ ∧ xb < w.heap.size ∧ ScriptAt w xb xf sn X) :
    Calls Tryz.prog 4 #[.slice so n cap, .slice ao pn pc, .slice xo sn xc] w fun e w' => e = .returned (.bool true) ∧ Below w.heap.size w w' := by
  have HT : Hid (1 ≤ n → ∃ b off, so = some ⟨b, off, none⟩ ∧ b < w.heap.size ∧ TasksAt w b off n T) := hT
  have HZ : Hid (1 ≤ pn → ∃ pb po, ao = some ⟨pb, po, none⟩ ∧ pb < w.heap.size ∧ IntsAt w pb po pn Z) := hZ
  have HX : Hid (1 ≤ sn → ∃ xb xf, xo = some ⟨xb, xf, none⟩ ∧ xb < w.heap.size ∧ ScriptAt w xb xf sn X) := hX
  clear hT hZ hX
  go_enter Tryz.func4, Tryz.ntmps4
  go_wp2_with fail
  refine (watched_any so ao n cap pn pc T Z w (by omega) HT.out HZ.out).mono ?_
  rintro e w1 (⟨rfl, hb1⟩ | ⟨kb, wb, rfl, hG, hP, rfl, hk⟩)
  · have HB1 : Hid (Below w.heap.size w w1) := hb1
    clear hb1
    go_wp2
    go_ret
    exact ⟨rfl, HB1.out⟩
  · have h8 := hG.eight
    have h1n := hG.one
    obtain ⟨b, off, rfl, hb, hTb⟩ := HT.out h1n
    obtain ⟨pb, po, rfl, hpb, hZb⟩ := HZ.out h1n
    have HTb : Hid (TasksAt w b off pn T) := hTb
    have HZb : Hid (IntsAt w pb po pn Z) := hZb
    have HG : Hid (Good T pn) := hG
    have HP : Hid (PrioB Z pn) := hP
    have HK : Hid (WSt w w1 pn kb wb (.slice (some ⟨b, off, none⟩) pn cap) (.slice (some ⟨pb, po, none⟩) pn pc) (sysOf T Z pn) Cad.start) := hk
    have HBL : Hid (∀ m w', WSt w w' pn kb wb (.slice (some ⟨b, off, none⟩) pn cap) (.slice (some ⟨pb, po, none⟩) pn pc) (sysOf T Z pn) m → Below w.heap.size w w') := by
      rintro m w' ⟨_, _, _, _, _, _, _, _, _, h, _⟩
      exact h
    clear hTb hZb hG hP hk HT HZ
    go_wp2_with fail
    go_loopw [8, 9] (fun okv iv wr => ∃ (i : Nat) (m : Mc), i ≤ sn ∧ okv = .bool true ∧ iv = .int .i64 i ∧ WSt w wr pn kb wb (.slice (some ⟨b, off, none⟩) pn cap) (.slice (some ⟨pb, po, none⟩) pn pc) (sysOf T Z pn) m ∧ (m.now ≤ 40 * (i : Int) ∧ m.arrd ≤ i ∧ KI (sysOf T Z pn) m)) (fun _ iv _ => sn - (intOf iv).toNat)
    case atStart => exact ⟨0, _, Nat.zero_le _, rfl, rfl, HK.out, by simp [Cad.start], by simp [Cad.start], ki_start _⟩
    case round =>
      clear HK
      obtain ⟨i, m, hi, rfl, rfl, hit, hna⟩ := hrel
      have HIT : Hid (WSt w wr pn kb wb (.slice (some ⟨b, off, none⟩) pn cap) (.slice (some ⟨pb, po, none⟩) pn pc) (sysOf T Z pn) m) := hit
      have HB : Hid (Below w.heap.size w wr) := HBL.out _ _ hit
      have HNA : Hid (m.now ≤ 40 * (i : Int) ∧ m.arrd ≤ i ∧ KI (sysOf T Z pn) m) := hna
      clear hit hna
      by_cases hlt : i < sn
      · obtain ⟨xb, xf, rfl, hxb, hxs⟩ := HX.out (by omega)
        have hsz := HB.out.size
        obtain ⟨x0, x1, x2, x3, hi0, hi1, hi2, hraw⟩ := hxs.belowW hxb HB.out i hlt
        have HAR : Hid (Calls Tryz.prog 9 #[.pointer (some ⟨wb, 0, none⟩), .agg #[.int .i64 (X.T i), .int .i64 (X.J i), .int .i64 (X.U i), .slice (X.A i) (X.L i) (X.C i)]] wr fun e w'' => e = .returned (.tuple #[]) ∧ ∃ m', WSt w w'' pn kb wb (.slice (some ⟨b, off, none⟩) pn cap) (.slice (some ⟨pb, po, none⟩) pn pc) (sysOf T Z pn) m' ∧ (m'.now ≤ 40 * (i : Int) ∧ m'.arrd ≤ i + 1 ∧ KI (sysOf T Z pn) m')) := by
          have h40 := HNA.out
          have hok : Ok (sysOf T Z pn) m := by obtain ⟨_, _, _, _, _, _, hk, _⟩ := HIT.out; exact hk.ok
          refine (arrivesW_any (Z := Z) (X.T i) (X.J i) (X.U i) HG.out hb HTb.out (hxs i hlt).2.2.2.2.2.2.2 hi0 hi1 HIT.out (by omega) (by omega)).mono ?_
          rintro e w'' ⟨he, hk⟩
          have hna := nowW_arrive (sysOf T Z pn) m (tkOf pn (X.T i) : Int) (jitOf T (tkOf pn (X.T i)) (X.J i)) (fun q => (demOf T (tkOf pn (X.T i)) (X.R i) (X.L i)).getD q 0) (demOf T (tkOf pn (X.T i)) (X.R i) (X.L i)).length
          refine ⟨he, _, hk, ?_, ?_, ki_arrive h40.2.2 hok.now0 _ _ _ _⟩
          · show (stepA T Z pn m (X.T i) (X.J i) (X.R i) (X.L i)).1.now ≤ _
            unfold stepA
            rw [hna.1]; exact h40.1
          · show (stepA T Z pn m (X.T i) (X.J i) (X.R i) (X.L i)).1.arrd ≤ _
            unfold stepA
            omega
        have hpk := pickI_range (c := X.U i) (n := 41) (by omega)
        have HXS : Hid (∀ w', Below w.heap.size w w' → w'.cell? ⟨xb, xf + i * 4 + 2, none⟩ = some (.int .i64 (X.U i))) := fun w' hb' => (hxs.belowW hxb hb' i hlt).2.2.1
        have HPK : Hid (∀ w', Calls Tryz.prog 10 #[.int .i64 (X.U i), .int .i64 41] w' fun e w'' => e = .returned (.int .i64 (pickI (X.U i) 41)) ∧ w'' = w') := fun w' => pick_any _ _ w' hi2 (by omega) (by omega)
        obtain ⟨uq, huq⟩ : ∃ uq : Nat, pickI (X.U i) 41 = (uq : Int) := ⟨(pickI (X.U i) 41).toNat, by omega⟩
        rw [huq] at hpk
        have HUQ : Hid (∀ w', Calls Tryz.prog 10 #[.int .i64 (X.U i), .int .i64 41] w' fun e w'' => e = .returned (.int .i64 (uq : Int)) ∧ w'' = w') := by
          have := HPK.out
          rw [huq] at this
          exact this
        have hxw : xb < wr.heap.size := by omega
        clear hxs hraw hi0 hi1 hi2 HPK huq HIT HB HNA
        go_wp2_with fail
        refine (HAR.out).mono ?_
        rintro e w3 ⟨rfl, m3, hit3, hna3⟩
        have hb3 := HBL.out _ _ hit3
        have x2' := HXS.out _ hb3
        have hs3 := hb3.size
        have hxw3 : xb < w3.heap.size := by omega
        have HIT3 : Hid (WSt w w3 pn kb wb (.slice (some ⟨b, off, none⟩) pn cap) (.slice (some ⟨pb, po, none⟩) pn pc) (sysOf T Z pn) m3) := hit3
        have HNA3 : Hid (m3.now ≤ 40 * (i : Int) ∧ m3.arrd ≤ i + 1 ∧ KI (sysOf T Z pn) m3) := hna3
        clear hit3 hna3 hb3 HAR x0 x1 x2 x3 HXS
        go_wp2_with fail
        refine (HUQ.out _).mono ?_
        rintro e w4 ⟨rfl, rfl⟩
        clear HUQ x2'
        go_wp2_with fail
        go_loopw [8, 10] (fun okv nv wr => ∃ (q : Nat) (m : Mc), q ≤ uq ∧ okv = .bool true ∧ nv = .int .i64 q ∧ WSt w wr pn kb wb (.slice (some ⟨b, off, none⟩) pn cap) (.slice (some ⟨pb, po, none⟩) pn pc) (sysOf T Z pn) m ∧ (m.now + q ≤ 40 * ((i : Int) + 1) ∧ m.arrd ≤ i + 1 ∧ KI (sysOf T Z pn) m)) (fun _ nv _ => (intOf nv).toNat)
        case atStart => exact ⟨uq, m3, Nat.le_refl _, rfl, rfl, HIT3.out, ⟨by have := HNA3.out.1; omega, HNA3.out.2⟩⟩
        case round =>
          clear HIT3 HNA3
          obtain ⟨q, m4, hq, rfl, rfl, hit4, hna4⟩ := hrel
          have HIT4 : Hid (WSt w wr pn kb wb (.slice (some ⟨b, off, none⟩) pn cap) (.slice (some ⟨pb, po, none⟩) pn pc) (sysOf T Z pn) m4) := hit4
          have HNA4 : Hid (m4.now + q ≤ 40 * ((i : Int) + 1) ∧ m4.arrd ≤ i + 1 ∧ KI (sysOf T Z pn) m4) := hna4
          clear hit4 hna4
          by_cases hq0 : 0 < q
          · have bq : decide ((0 : Int) < (q : Int)) = true := by simp; omega
            go_wp2_with fail
            refine (tickW_any HG.out HP.out hb hpb HTb.out HZb.out HIT4.out (by have := HNA4.out.1; omega)).mono ?_
            rintro e w5 ⟨rfl, hit5⟩
            have HIT5 : Hid (WSt w w5 pn kb wb (.slice (some ⟨b, off, none⟩) pn cap) (.slice (some ⟨pb, po, none⟩) pn pc) (sysOf T Z pn) (tick (sysOf T Z pn) m4).1) := hit5
            have hnt := nowW_tick (sysOf T Z pn) m4
            have HNA5 : Hid ((tick (sysOf T Z pn) m4).1.now + ((q - 1 : Nat) : Int) ≤ 40 * ((i : Int) + 1) ∧ (tick (sysOf T Z pn) m4).1.arrd ≤ i + 1 ∧ KI (sysOf T Z pn) (tick (sysOf T Z pn) m4).1) := ⟨by have := HNA4.out.1; rw [hnt.1]; omega, by rw [hnt.2]; exact HNA4.out.2.1, ki_tick' (by obtain ⟨_, _, _, _, _, _, hk, _⟩ := HIT4.out; exact hk.ok) HNA4.out.2.2⟩
            clear hit5 hnt
            generalize (tick (sysOf T Z pn) m4).1 = m5 at *
            go_wp2
            go_roundw
            case rel => exact ⟨q - 1, m5, by omega, rfl, by go_num, HIT5.out, HNA5.out⟩
            case measure => simp [intOf]; omega
          · obtain rfl : q = 0 := by omega
            go_wp2_with fail
            refine (counted_any sort_recs HG.out HP.out HIT4.out HNA4.out.2.2 (by have := HNA4.out.1; omega)).mono ?_
            rintro e w5 ⟨rfl, hit5⟩
            have HIT5 : Hid (WSt w w5 pn kb wb (.slice (some ⟨b, off, none⟩) pn cap) (.slice (some ⟨pb, po, none⟩) pn pc) (sysOf T Z pn) m4) := hit5
            clear hit5
            go_wp2
            go_roundw
            case rel => exact ⟨i + 1, m4, by omega, rfl, by go_num, HIT5.out, ⟨by have := HNA4.out.1; omega, by have := HNA4.out.2; omega, HNA4.out.2.2⟩⟩
            case measure => simp [intOf]; omega
      · obtain rfl : i = sn := by omega
        go_wp2_with fail
        refine (counted_any sort_recs HG.out HP.out HIT.out HNA.out.2.2 (by have := HNA.out.1; omega)).mono ?_
        rintro e w5 ⟨rfl, hit5⟩
        have HB5 : Hid (Below w.heap.size w w5) := HBL.out _ _ hit5
        clear hit5
        go_wp2
        go_ret
        exact ⟨rfl, HB5.out⟩

end Go.Proofs.YtdabcflpcklfiaaGreat
