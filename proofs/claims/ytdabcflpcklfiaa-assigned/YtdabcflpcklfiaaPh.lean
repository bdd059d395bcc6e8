import Derived.Test.YtdabcflpcklfiaaPf
import Derived.Test.YtdabcflpcklfiaaK28
import Derived.Test.YtdabcflpcklfiaaPg
/- Priorities are found. -/
namespace Go.Proofs.Ytdabcflpcklfiaa
open Go.RowKit

theorem SEnv.of {w w' : World} {sb g mb n : Nat} {T : TD} (h : SEnv w sb g mb n T) (hs : w'.heap[sb]? = w.heap[sb]?) (hg : w'.heap[g]? = w.heap[g]?) (hl : w.heap.size ≤ w'.heap.size) : SEnv w' sb g mb n T := by
  have c : ∀ b q, w'.heap[b]? = w.heap[b]? → w'.cell? ⟨b, q, none⟩ = w.cell? ⟨b, q, none⟩ := fun b q e => by simp [World.cell?, e]
  refine ⟨(c _ _ hs).trans h.s0, (c _ _ hs).trans h.s1, fun i hi => ?_, by have := h.lts; omega, by have := h.ltg; omega, h.nes, h.neg⟩
  have d := fun q => c g q hg
  rw [d, d, d, d, d, d, d, d, d, d, d, d]
  exact h.sys i hi

theorem pair_row (w : World) (a b : Value) (t : Nat) : (w.alloc (.cells #[a, b] t)).rowIs w.heap.size t 2 (fun q => if q = 0 then a else b) :=
  World.rowIs_alloc w #[a, b] t _ (fun i hi => by
    have hi' : i < 2 := hi
    match i, hi' with
    | 0, _ => rfl
    | 1, _ => rfl)

/-- While priorities are given. -/
structure FindInv (T : TD) (n sb g mb ob pb B : Nat) (w wr : World) (p : Nat) : Prop where
  env : SEnv wr sb g mb n T
  row : ∃ H Z M k, Part True T n p H Z ∧ Poss T n H ∧ wr.rowIs ob 86 8 (fun q => .bool (H q)) ∧ wr.rowIs pb 3 n (fun q => .int .i64 (Z q)) ∧ SMap wr mb k M ∧ MInv T n M ∧ ((∀ q, H q = false) ∨ (M H).isSome = true)
  bel : Below B w wr

set_option maxRecDepth 100000 in
set_option maxHeartbeats 2000000 in
theorem find_any (g n : Nat) (T : TD) (w : World) (hG : Good T n) (hg : g < w.heap.size) (hS : SysAt w g n T) :
    Calls Try.prog 43 #[.slice (some ⟨g, 0, none⟩) n n] w fun e w' => (e = .returned (.slice none 0 0) ∧ ¬ Poss T n (fun q => decide (q < n)) ∨ ∃ pb Z, e = .returned (.slice (some ⟨pb, 0, none⟩) n n) ∧ w.heap.size ≤ pb ∧ w'.rowIs pb 3 n (fun q => .int .i64 (Z q)) ∧ Cad.PrioB Z n ∧ (∀ i, i < n → Has T n (abv Z n i) i) ∧ (∀ i, i < n → Low T n (fun q => if q < n then decide (Z i ≤ Z q) else false) i)) ∧ Below w.heap.size w w' := by
  obtain ⟨i0, hi0, hq0, hq1, hq2⟩ := info_parts Try.info3
  have h8 := hG.eight
  have h1 := hG.one
  have HG : Hid (Good T n) := hG
  have HS : Hid (SysAt w g n T) := hS
  have hmm := @run_makeMap Try.prog
  clear hG hS
  have HB0 : Hid (Below w.heap.size w (((w.alloc (.map #[] 0)).alloc (.cells #[.slice (some ⟨g, 0, none⟩) n n, .map (some w.heap.size)] 121)).alloc (.cells #[.bool false, .bool false, .bool false, .bool false, .bool false, .bool false, .bool false, .bool false] 86))) := ((below_alloc1 _ _).alloc (by simp) _).alloc (by simp; omega) _
  have HO0 : Hid ((((w.alloc (.map #[] 0)).alloc (.cells #[.slice (some ⟨g, 0, none⟩) n n, .map (some w.heap.size)] 121)).alloc (.cells #[.bool false, .bool false, .bool false, .bool false, .bool false, .bool false, .bool false, .bool false] 86)).rowIs (w.heap.size + 1 + 1) 86 8 fls) := false8 _ 86 _ (by simp)
  have HM0 : Hid (SMap (((w.alloc (.map #[] 0)).alloc (.cells #[.slice (some ⟨g, 0, none⟩) n n, .map (some w.heap.size)] 121)).alloc (.cells #[.bool false, .bool false, .bool false, .bool false, .bool false, .bool false, .bool false, .bool false] 86)) w.heap.size 0 (fun _ => none)) := (SMap.made w).of_block ((Deep.blk_alloc_lt _ _ _ (by simp; omega)).trans (Deep.blk_alloc_lt _ _ _ (by simp)))
  have HE0 : Hid (SEnv (((w.alloc (.map #[] 0)).alloc (.cells #[.slice (some ⟨g, 0, none⟩) n n, .map (some w.heap.size)] 121)).alloc (.cells #[.bool false, .bool false, .bool false, .bool false, .bool false, .bool false, .bool false, .bool false] 86)) (w.heap.size + 1) g w.heap.size n T) := by
    have hp : (((w.alloc (.map #[] 0)).alloc (.cells #[.slice (some ⟨g, 0, none⟩) n n, .map (some w.heap.size)] 121)).alloc (.cells #[.bool false, .bool false, .bool false, .bool false, .bool false, .bool false, .bool false, .bool false] 86)).rowIs (w.heap.size + 1) 121 2 (fun q => if q = 0 then .slice (some ⟨g, 0, none⟩) n n else .map (some w.heap.size)) := by
      have := (pair_row (w.alloc (.map #[] 0)) (.slice (some ⟨g, 0, none⟩) n n) (.map (some w.heap.size)) 121).alloc (.cells #[.bool false, .bool false, .bool false, .bool false, .bool false, .bool false, .bool false, .bool false] 86)
      rw [World.size_alloc] at this
      exact this
    exact ⟨hp.cell (i := 0) (by omega), hp.cell (i := 1) (by omega), SysAt.below HS.out hg HB0.out, hp.lt, by have := HB0.out.size; omega, by omega, by omega⟩
  go_enter Try.func43, Try.ntmps43
  go_wp2
  generalize (((w.alloc (.map #[] 0)).alloc (.cells #[.slice (some ⟨g, 0, none⟩) n n, .map (some w.heap.size)] 121)).alloc (.cells #[.bool false, .bool false, .bool false, .bool false, .bool false, .bool false, .bool false, .bool false] 86)) = W0 at *
  generalize hob : w.heap.size + 1 + 1 = ob at *
  generalize hsb : w.heap.size + 1 = sb at *
  have hmb : ob ≠ w.heap.size := by omega
  have hos : ob ≠ sb := by omega
  have hog : ob ≠ g := by omega
  have hBo : w.heap.size ≤ ob := by omega
  clear hmm
  go_loopw [14] (fun iv wr => ∃ k : Nat, k ≤ n ∧ iv = .int .i64 k ∧ wr.rowIs ob 86 8 (fun q => .bool (decide (q < k))) ∧ Fr (fun q => q = ob) W0 wr) (fun iv _ => n - (intOf iv).toNat)
  case atStart => exact ⟨0, Nat.zero_le _, rfl, HO0.out.congr (fun q _ => by simp [fls]), Fr.refl _ _⟩
  case round =>
    obtain ⟨k, hk, rfl, hro, hfr⟩ := hrel
    by_cases hlt : k < n
    · have x0 : wr.cell? ⟨ob, k, none⟩ = some (.bool (decide (k < k))) := hro.cell (by omega)
      have z0 := hro.frozen k
      have FH : Hid ((wr.setCell ⟨ob, k, none⟩ (.bool true)).rowIs ob 86 8 (fun q => .bool (decide (q < k + 1)))) := (hro.set k _).congr (fun q _ => by
        by_cases e : q = k
        · subst e; simp
        · rw [if_neg e]
          congr 1
          simp only [decide_eq_decide]
          omega)
      have FR : Hid (Fr (fun q => q = ob) W0 (wr.setCell ⟨ob, k, none⟩ (.bool true))) := hfr.setCell (.inl rfl) _
      have hk8 : (k : Int) < 8 := by omega
      clear hro hfr
      go_wp2
      go_roundw
      case rel => exact ⟨k + 1, by omega, by go_num, FH.out, FR.out⟩
      case measure => simp [intOf]; omega
    · obtain rfl : k = n := by omega
      have HRO : Hid (wr.rowIs ob 86 8 (fun q => .bool (decide (q < k)))) := hro
      have HFR : Hid (Fr (fun q => q = ob) W0 wr) := hfr
      have HE1 : Hid (SEnv wr sb g w.heap.size k T) := HE0.out.of (hfr.block _ HE0.out.lts (Ne.symm hos)) (hfr.block _ HE0.out.ltg (Ne.symm hog)) hfr.size
      have HM1 : Hid (SMap wr w.heap.size 0 (fun _ => none)) := HM0.out.of_block (hfr.block _ HM0.out.lt (Ne.symm hmb))
      have HB1 : Hid (Below w.heap.size w wr) := HB0.out.trans (hfr.below HB0.out.size (fun q hq => by omega))
      have HP1 : Hid (wr.heap[ob]? = some (.cells #[.bool (decide (0 < k)), .bool (decide (1 < k)), .bool (decide (2 < k)), .bool (decide (3 < k)), .bool (decide (4 < k)), .bool (decide (5 < k)), .bool (decide (6 < k)), .bool (decide (7 < k))] 86 (0, 0))) := row8 hro
      clear hro hfr HE0 HM0 HB0 HO0
      have HCALL : Hid (Calls Try.prog 65 #[.pointer (some ⟨sb, 0, none⟩), .agg #[.bool (decide (0 < k)), .bool (decide (1 < k)), .bool (decide (2 < k)), .bool (decide (3 < k)), .bool (decide (4 < k)), .bool (decide (5 < k)), .bool (decide (6 < k)), .bool (decide (7 < k))]] wr fun e w' => ∃ (t : Bool) (M' : (Nat → Bool) → Option Int), e = .returned (.bool t) ∧ (t = true ↔ Poss T k (fun q => decide (q < k))) ∧ SMap w' w.heap.size (0 + 9 ^ k) M' ∧ MInv T k M' ∧ Ext (fun _ => none) M' ∧ (t = true → (∀ q, (fun q => decide (q < k)) q = false) ∨ (M' (fun q => decide (q < k))).isSome = true) ∧ Fr (fun q => q = w.heap.size) wr w') := by
        refine (poss_all HG.out k (fun q => decide (q < k)) (fun _ => none) 0 wr (cntS_le _) (fun q hq => by simpa using hq) HE1.out HM1.out (fun H x _ h => by cases h) ?_)
        have : 9 ^ k ≤ 9 ^ 8 := Nat.pow_le_pow_right (by omega) h8
        omega
      go_wp2_with (refine wpList_load_row rfl 86 (.tmp 4) rfl ob rfl 86 #[.bool (decide (0 < k)), .bool (decide (1 < k)), .bool (decide (2 < k)), .bool (decide (3 < k)), .bool (decide (4 < k)), .bool (decide (5 < k)), .bool (decide (6 < k)), .bool (decide (7 < k))] (0, 0) _ HP1.out Try.underlying86 rfl (by kernel_rfl) ?_)
      refine (HCALL.out).mono ?_
      rintro e w2 ⟨t, M2, rfl, hposs, hsm, hmi, _, hin, hfr2⟩
      have HFR2 : Hid (Fr (fun q => q = w.heap.size) wr w2) := hfr2
      have HB2 : Hid (Below w.heap.size w w2) := HB1.out.trans (hfr2.below HB1.out.size (fun q hq => by omega))
      cases t with
      | false =>
        have hno : Hid (¬ Poss T k (fun q => decide (q < k))) := fun h => by have := hposs.2 h; cases this
        clear hposs hsm hmi hin hfr2 HCALL
        go_wp2
        go_ret
        exact ⟨.inl ⟨rfl, hno.out⟩, HB2.out⟩
      | true =>
        have HPO : Hid (Poss T k (fun q => decide (q < k))) := hposs.1 rfl
        have HIN : Hid ((∀ q, (fun q => decide (q < k)) q = false) ∨ (M2 (fun q => decide (q < k))).isSome = true) := hin rfl
        have HSM2 : Hid (SMap w2 w.heap.size (0 + 9 ^ k) M2) := hsm
        have HMI2 : Hid (MInv T k M2) := hmi
        have HRO2 : Hid (w2.rowIs ob 86 8 (fun q => .bool (decide (q < k)))) := hfr2.row HRO.out hmb
        have HE2 : Hid (SEnv w2 sb g w.heap.size k T) := HE1.out.fr hfr2
        clear hposs hsm hmi hin hfr2 HCALL
        go_wp2_with (at_make; refine wpList_make_is _ rfl _ _ 26 rfl 3 i0 _ 1 8 Try.underlying26 hi0 hq0 hq1 hq2 _ _ _ _ k rfl rfl (by omega) (by omega) (by omega) (by omega) z1 zero_1 ?_)
        intro w3 hr3 hg3 hs3
        have hb3 : Below w2.heap.size w2 w3 := (Below.refl _ _).grown hg3 (Nat.le_refl _) (fun k hk => by cases hk)
        have hr3' : w3.rowIs w2.heap.size 3 k z1 := by simpa using hr3
        have hl2 := HRO2.out.lt
        have hb2 := HB2.out.size
        have HI3 : Hid (FindInv T k sb g w.heap.size ob w2.heap.size w.heap.size w w3 0) := ⟨HE2.out.of (hb3.block _ HE2.out.lts) (hb3.block _ HE2.out.ltg) hb3.size, ⟨fun q => decide (q < k), fun _ => 0, M2, _, Part.start, HPO.out, HRO2.out.of_block (hb3.block _ hl2), hr3', HSM2.out.of_block (hb3.block _ HSM2.out.lt), HMI2.out, HIN.out⟩, HB2.out.trans (hb3.mono (by omega))⟩
        generalize hpb : w2.heap.size = pb at *
        have hpo : pb ≠ ob := by omega
        have hps : pb ≠ sb := by have := HE2.out.lts; omega
        have hpg : pb ≠ g := by omega
        have hpm : pb ≠ w.heap.size := by omega
        have hBp : w.heap.size ≤ pb := by omega
        clear hr3 hg3 hs3 hb3 hr3' HRO2 HE2 HSM2 HMI2 HIN HPO HB2 HFR2 HRO HFR HE1 HM1 HB1 HP1
        go_wp2_with fail
        go_loopw [28] (fun pv wr => ∃ p : Nat, p ≤ k ∧ pv = .int .i64 p ∧ FindInv T k sb g w.heap.size ob pb w.heap.size w wr p) (fun pv _ => k - (intOf pv).toNat)
        case atStart => exact ⟨0, Nat.zero_le _, rfl, HI3.out⟩
        case round =>
          obtain ⟨p, hp, rfl, hinv⟩ := hrel
          obtain ⟨henv, ⟨H, Z, M, kk, hpart, hpos, hro, hrz, hsm, hmi, hin⟩, hbel⟩ := hinv
          have HENV : Hid (SEnv wr sb g w.heap.size k T) := henv
          have HPART : Hid (Part True T k p H Z) := hpart
          have HRO : Hid (wr.rowIs ob 86 8 (fun q => .bool (H q))) := hro
          have HRZ : Hid (wr.rowIs pb 3 k (fun q => .int .i64 (Z q))) := hrz
          have HSM : Hid (SMap wr w.heap.size kk M) := hsm
          have HMI : Hid (MInv T k M) := hmi
          have HBL : Hid (Below w.heap.size w wr) := hbel
          by_cases hlt : p < k
          · have hne : ∃ q, H q = true := by
              refine Classical.byContradiction fun hno => ?_
              have h0 : ∀ m, cntS H m = 0 := by
                intro m
                induction m with
                | zero => rfl
                | succ m ih =>
                  simp only [cntS]
                  rw [ih, if_neg (fun h => hno ⟨m, h⟩)]
              have := hpart.cnt
              rw [h0] at this
              omega
            have h8H : In8 H := fun q hq => hpart.sub q (by omega)
            obtain ⟨x, hx⟩ : ∃ x, M H = some x := by
              rcases hin with h | h
              · obtain ⟨q, hq⟩ := hne
                rw [h q] at hq
                cases hq
              · exact Option.isSome_iff_exists.1 h
            obtain ⟨i, rfl, hlow, hnext⟩ : ∃ i : Nat, x = i ∧ Low T k H i ∧ ((∀ q, dropI H i q = false) ∨ (M (dropI H i)).isSome = true) := by
              rcases hmi H x h8H hx with ⟨_, h⟩ | h
              · exact absurd hpos h
              · exact h
            have hik := hlow.1
            have hrun := run_slook1 h8H hsm hx
            unfold setV at hrun
            have y1 := henv.s1
            have hls := henv.lts
            have HLOW : Hid (Low T k H i) := hlow
            have HNEXT : Hid ((∀ q, dropI H i q = false) ∨ (M (dropI H i)).isSome = true) := hnext
            have x0 : wr.cell? ⟨pb, i, none⟩ = some (.int .i64 (Z i)) := hrz.cell hik
            have z0 := hrz.frozen i
            have HP1 : Hid (wr.heap[ob]? = some (.cells #[.bool (H 0), .bool (H 1), .bool (H 2), .bool (H 3), .bool (H 4), .bool (H 5), .bool (H 6), .bool (H 7)] 86 (0, 0))) := row8 hro
            have HP2 : Hid ((wr.setCell ⟨pb, i, none⟩ (.int .i64 p)).heap[ob]? = some (.cells #[.bool (H 0), .bool (H 1), .bool (H 2), .bool (H 3), .bool (H 4), .bool (H 5), .bool (H 6), .bool (H 7)] 86 (0, 0))) := row8 (hro.setOther (by show ob ≠ pb; omega) _)
            clear henv hpart hro hrz hsm hmi hbel hpos hin hne hx hlow hnext
            go_wp2_with (first | (refine wpList_load_row rfl 86 (.tmp 4) rfl ob rfl 86 #[.bool (H 0), .bool (H 1), .bool (H 2), .bool (H 3), .bool (H 4), .bool (H 5), .bool (H 6), .bool (H 7)] (0, 0) _ HP1.out Try.underlying86 rfl (by kernel_rfl) ?_) | (refine wpList_load_row rfl 86 (.tmp 4) rfl ob rfl 86 #[.bool (H 0), .bool (H 1), .bool (H 2), .bool (H 3), .bool (H 4), .bool (H 5), .bool (H 6), .bool (H 7)] (0, 0) _ HP2.out Try.underlying86 rfl (by kernel_rfl) ?_))
            refine (without_any H i (wr.setCell ⟨pb, i, none⟩ (.int .i64 p)) (by omega)).mono ?_
            rintro e w4 ⟨rfl, hb4⟩
            have hs4 : wr.heap.size ≤ w4.heap.size := by have := hb4.size; simpa using this
            have hoth : ∀ q, q < wr.heap.size → q ≠ pb → w4.heap[q]? = wr.heap[q]? := fun q hq hne => (hb4.block q (by simpa using hq)).trans (Deep.blk_setCell_other _ _ _ _ hne)
            have HR2 : Hid (w4.heap[ob]? = some (.cells #[.bool (H 0), .bool (H 1), .bool (H 2), .bool (H 3), .bool (H 4), .bool (H 5), .bool (H 6), .bool (H 7)] 86 (0, 0))) := (hoth _ HRO.out.lt (by omega)).trans HP1.out
            have HINV : Hid (FindInv T k sb g w.heap.size ob pb w.heap.size w (w4.setRow ob #[.bool (dropI H i 0), .bool (dropI H i 1), .bool (dropI H i 2), .bool (dropI H i 3), .bool (dropI H i 4), .bool (dropI H i 5), .bool (dropI H i 6), .bool (dropI H i 7)]) (p + 1)) := by
              have h5 : ∀ q, q < wr.heap.size → q ≠ pb → q ≠ ob → (w4.setRow ob #[.bool (dropI H i 0), .bool (dropI H i 1), .bool (dropI H i 2), .bool (dropI H i 3), .bool (dropI H i 4), .bool (dropI H i 5), .bool (dropI H i 6), .bool (dropI H i 7)]).heap[q]? = wr.heap[q]? := fun q hq h1 h2 => (setRow_other _ _ _ _ h2).trans (hoth q hq h1)
              have hrz : (w4.setRow ob #[.bool (dropI H i 0), .bool (dropI H i 1), .bool (dropI H i 2), .bool (dropI H i 3), .bool (dropI H i 4), .bool (dropI H i 5), .bool (dropI H i 6), .bool (dropI H i 7)]).rowIs pb 3 k (fun q => .int .i64 (updZ Z i p q)) := by
                refine (row_set_int HRZ.out i (p : Int)).of_block ((setRow_other _ _ _ _ hpo).trans (hb4.block _ (by simpa using HRZ.out.lt)))
              refine ⟨HENV.out.of (h5 _ HENV.out.lts (Ne.symm hps) (Ne.symm hos)) (h5 _ HENV.out.ltg (Ne.symm hpg) (Ne.symm hog)) (by simpa using hs4), ⟨dropI H i, updZ Z i p, M, kk, HPART.out.next HLOW.out.1 HLOW.out.2.1 HLOW.out.2.2.1 (fun _ => HLOW.out), HLOW.out.2.2.2.1, row_of8 (setRow_heap _ _ _ _ _ _ HR2.out), hrz, HSM.out.of_block (h5 _ HSM.out.lt (Ne.symm hpm) (Ne.symm hmb)), HMI.out, HNEXT.out⟩, ?_⟩
              have hb5 := HBL.out.size
              have hbs : Below w.heap.size w (wr.setCell ⟨pb, i, none⟩ (.int .i64 p)) := HBL.out.setCell hBp _
              have hba : Below w.heap.size w w4 := hbs.trans (hb4.mono (by simpa using hb5))
              exact ⟨hba.os, hba.tape, hba.output, by simpa using hba.size, fun q hq => (setRow_other _ _ _ _ (by omega)).trans (hba.block q hq)⟩
            clear hb4 hs4 hoth x0 z0 y1 hrun HP1 HP2 HENV HPART HRO HRZ HSM HMI HBL HLOW HNEXT
            unfold setV
            go_wp2_with (refine wpList_store_row rfl 86 (.tmp 4) (.tmp 41) rfl ob #[.bool (dropI H i 0), .bool (dropI H i 1), .bool (dropI H i 2), .bool (dropI H i 3), .bool (dropI H i 4), .bool (dropI H i 5), .bool (dropI H i 6), .bool (dropI H i 7)] rfl rfl 86 #[.bool (H 0), .bool (H 1), .bool (H 2), .bool (H 3), .bool (H 4), .bool (H 5), .bool (H 6), .bool (H 7)] HR2.out (by kernel_rfl) rfl (all8 _ _ _ _ _ _ _ _) ?_)
            go_wp2
            go_roundw
            case rel => exact ⟨p + 1, by omega, by go_num, HINV.out⟩
            case measure => simp [intOf]; omega
          · obtain rfl : p = k := by omega
            have HD : Hid (Cad.PrioB Z p ∧ (∀ i, i < p → Has T p (abv Z p i) i) ∧ (True → ∀ i, i < p → Low T p (fun q => if q < p then decide (Z i ≤ Z q) else false) i)) := hpart.done
            clear henv hpart hro hrz hsm hmi hbel hpos hin
            go_wp2
            go_ret
            exact ⟨.inr ⟨pb, Z, rfl, hBp, HRZ.out, HD.out.1, HD.out.2.1, HD.out.2.2 trivial⟩, HBL.out⟩

end Go.Proofs.Ytdabcflpcklfiaa
