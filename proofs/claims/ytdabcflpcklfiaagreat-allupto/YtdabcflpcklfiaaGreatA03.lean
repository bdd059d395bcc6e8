import Derived.Test.YtdabcflpcklfiaaGreatA01
/- A job uses one tick: the walk. -/
namespace Go.Proofs.YtdabcflpcklfiaaGreat
open Go.RowKit Cad

theorem RunInv.drew {w0 wr : World} {mb jb rb cap L t : Nat} {f : Nat → Value} {K : Nat → Int} {j : Jb} {v : Value} {h : Nat → Int} (hi : RunInv w0 wr mb jb rb cap L t f K j v h) : RunInv w0 wr.drew mb jb rb cap L t f K j v h :=
  ⟨hi.mrow, hi.jrow, hi.srow, hi.fr.drew⟩

theorem jcell_cells {wr : World} {jb t : Nat} {j : Jb} {d : Int} {v : Value} (h : wr.rowIs jb 160 7 (jcell t j d v)) :
    wr.cell? ⟨jb, 0, none⟩ = some (.int .i64 t) ∧ wr.cell? ⟨jb, 4, none⟩ = some (.int .i64 j.left) ∧ wr.cell? ⟨jb, 6, none⟩ = some v :=
  ⟨by rw [h.cell (by omega)]; rfl, by rw [h.cell (by omega)]; rfl, by rw [h.cell (by omega)]; rfl⟩

theorem skip_lt {K : Nat → Int} {L : Nat} {j : Jb} (h : JbOk K L j) : skip K 2 L j.p < L ∧ K (skip K 2 L j.p) = 1 := by
  obtain ⟨h1, h2, h3, h4⟩ := skip_spec K 2 (L := L) (p := j.p) (by have := h.lt; omega)
  have hlt : skip K 2 L j.p < L := by
    rcases Nat.lt_or_ge (skip K 2 L j.p) L with hl | hl
    · exact hl
    · have := h3 (L - 1) (by have := h.lt; omega) (by have := h.lt; omega)
      rw [h.last] at this
      omega
  refine ⟨hlt, ?_⟩
  rcases h.kind _ hlt with hk | hk | hk
  · exact hk
  · exact absurd hk (h4 hlt)
  · exfalso
    rcases Nat.lt_or_ge j.p (skip K 2 L j.p) with hl | hl
    · obtain ⟨q, hq⟩ : ∃ q, skip K 2 L j.p = q + 1 := ⟨skip K 2 L j.p - 1, by omega⟩
      rw [hq] at hk hlt
      exact h.behind q hlt (h3 q (by omega) (by omega)) hk
    · have e : skip K 2 L j.p = j.p := by omega
      rw [e] at hk
      exact h.here hk

theorem lock_step {w0 wr : World} {mb jb rb cap L t k r : Nat} {f : Nat → Value} {K : Nat → Int} {j : Jb} {h : Nat → Int} {v : Value} (hi : RunInv w0 wr mb jb rb cap L t f K { j with p := k + 1 } v (setTo j.N t h j.p (k - j.p))) (hk : j.p ≤ k) (hr : j.N k = (r : Int)) (h8 : r < 8) :
    RunInv w0 (wr.setCell ⟨mb, 12 + r, none⟩ (.int .i64 t)) mb jb rb cap L t f K { j with p := k + 1 } v (setTo j.N t h j.p (k + 1 - j.p)) := by
  have hmj : mb ≠ jb := row_ne hi.mrow hi.jrow (by decide)
  obtain ⟨g, hg⟩ := hi.srow.row
  have hmr : mb ≠ rb := row_ne hi.mrow hg (by decide)
  have e : setTo j.N t h j.p (k + 1 - j.p) = upd (setTo j.N t h j.p (k - j.p)) r t := by
    rw [show k + 1 - j.p = (k - j.p) + 1 from by omega, setTo, show j.p + (k - j.p) = k from by omega, hr]
    rfl
  rw [e]
  exact ⟨mh_set hi.mrow h8 _, hi.jrow.setOther (by simpa using hmj.symm) _, hi.srow.of_block (Deep.blk_setCell_other _ _ _ _ (by simpa using hmr.symm)), hi.fr.setCell (.inl (.inl rfl)) _⟩

theorem hold_step {w0 wr : World} {mb jb rb cap L t p d r : Nat} {f : Nat → Value} {K Nf : Nat → Int} {j : Jb} {h : Nat → Int} {v : Value} {x : Int} (hi : RunInv w0 wr mb jb rb cap L t f K j v (setTo Nf x h p d)) (hr : Nf (p + d) = (r : Int)) (h8 : r < 8) :
    RunInv w0 (wr.setCell ⟨mb, 12 + r, none⟩ (.int .i64 x)) mb jb rb cap L t f K j v (setTo Nf x h p (d + 1)) := by
  have hmj : mb ≠ jb := row_ne hi.mrow hi.jrow (by decide)
  obtain ⟨g, hg⟩ := hi.srow.row
  have hmr : mb ≠ rb := row_ne hi.mrow hg (by decide)
  have e : setTo Nf x h p (d + 1) = upd (setTo Nf x h p d) r x := by
    rw [setTo, hr]
    rfl
  rw [e]
  exact ⟨mh_set hi.mrow h8 _, hi.jrow.setOther (by simpa using hmj.symm) _, hi.srow.of_block (Deep.blk_setCell_other _ _ _ _ (by simpa using hmr.symm)), hi.fr.setCell (.inl (.inl rfl)) _⟩

theorem use_step {w0 wr : World} {mb jb rb cap L t k : Nat} {f : Nat → Value} {K : Nat → Int} {j : Jb} {h : Nat → Int} {v : Value} (hi : RunInv w0 wr mb jb rb cap L t f K j v h) (x : Int) :
    RunInv w0 ((wr.setCell ⟨jb, 4, none⟩ (.int .i64 (j.left - 1))).setCell ⟨rb, k * 2 + 1, none⟩ (.int .i64 x)) mb jb rb cap L t f K { j with left := j.left - 1, N := upd j.N k x } v h := by
  obtain ⟨g, hg⟩ := hi.srow.row
  have hmj : mb ≠ jb := row_ne hi.mrow hi.jrow (by decide)
  have hmr : mb ≠ rb := row_ne hi.mrow hg (by decide)
  have hjr : jb ≠ rb := row_ne hi.jrow hg (by decide)
  refine ⟨(hi.mrow.setOther (by simpa using hmj) _).setOther (by simpa using hmr) _, ?_, ?_, (hi.fr.setCell (.inl (.inr (.inl rfl))) _).setCell (.inl (.inr (.inr rfl))) _⟩
  · refine ((hi.jrow.set 4 (.int .i64 (j.left - 1))).setOther (by simpa using hjr) _).congr (fun q hq => ?_)
    show (if q = 4 then Value.int .i64 (j.left - 1) else jcell t j (-1) v q) = _
    unfold jcell
    match q, hq with
    | 0, _ => rfl
    | 1, _ => rfl
    | 2, _ => rfl
    | 3, _ => rfl
    | 4, _ => rfl
    | 5, _ => rfl
    | 6, _ => rfl
  · exact (hi.srow.of_block (w' := wr.setCell ⟨jb, 4, none⟩ (.int .i64 (j.left - 1))) (Deep.blk_setCell_other _ _ _ _ (by simpa using hjr.symm))).set k x

theorem field85 (a b : Int) (w : World) : (Instr.field 86 (Value.agg #[.int .i64 a, .int .i64 b]) 1).run Tryz.prog w = .ok (.int .i64 b) w := by kernel_rfl

set_option maxRecDepth 100000 in
set_option maxHeartbeats 4000000 in
theorem run_any (mb jb rb cap L t : Nat) (K : Nat → Int) (f : Nat → Value) (j : Jb) (h : Nat → Int) (w : World) (hL : L ≤ 16) (_ht : t ≤ 8) (hj : JbOk K L j) (hl0 : -1000000 ≤ j.left) (hl1 : j.left ≤ 1000000)
    (hi : RunInv w w mb jb rb cap L t f K j (restV rb cap L j.p) h) :
    Calls Tryz.prog 85 #[.pointer (some ⟨mb, 0, none⟩), .pointer (some ⟨jb, 0, none⟩)] w fun e w' => ∃ v, e = .returned (.tuple #[]) ∧ RestAt rb cap L (runK K L t h j).2.p v ∧ RunInv w w' mb jb rb cap L t f K (runK K L t h j).2 v (runK K L t h j).1 := by
  obtain ⟨p1, hp1⟩ : ∃ p1, p1 = skip K 2 L j.p := ⟨_, rfl⟩
  have hsp := skip_spec K 2 (L := L) (p := j.p) (by have := hj.lt; omega)
  have hsl := skip_lt hj
  rw [← hp1] at hsp hsl
  have HJ : Hid (JbOk K L j) := hj
  have HI : Hid (RunInv w w mb jb rb cap L t f K j (restV rb cap L j.p) h) := hi
  have HSP : Hid (j.p ≤ p1 ∧ p1 ≤ L ∧ (∀ i, j.p ≤ i → i < p1 → K i = 2) ∧ (p1 < L → K p1 ≠ 2)) := hsp
  have HSL : Hid (p1 < L ∧ K p1 = 1) := hsl
  have HP1 : Hid (p1 = skip K 2 L j.p) := hp1
  have hmb := hi.mrow.lt
  have hjb := hi.jrow.lt
  have hrb := hi.srow.lt
  clear hj hi hsp hsl hp1
  have hfd := field85
  go_enter Tryz.func85, Tryz.ntmps85
  go_wp2
  go_loopw [4] (fun _ wr => ∃ k, j.p ≤ k ∧ k ≤ p1 ∧ RunInv w wr mb jb rb cap L t f K { j with p := k } (restV rb cap L k) (setTo j.N t h j.p (k - j.p))) (fun _ wr => restLen jb wr)
  case atStart => exact ⟨j.p, Nat.le_refl _, HSP.out.1, by rw [Nat.sub_self]; exact HI.out⟩
  case round =>
    obtain ⟨k, hk0, hk1, hinv⟩ := hrel
    have hkL : k < L := by have := HSL.out.1; omega
    obtain ⟨x0, x4, x6⟩ := jcell_cells hinv.jrow
    have y0 := hinv.srow.at0 hkL
    have y1 := hinv.srow.at1 hkL
    have hlc := hinv.srow.1
    have HINV : Hid (RunInv w wr mb jb rb cap L t f K { j with p := k } (restV rb cap L k) (setTo j.N t h j.p (k - j.p))) := hinv
    have hmbw := hinv.mrow.lt
    have hjbw := hinv.jrow.lt
    have hrbw := hinv.srow.lt
    clear hinv
    unfold restV at x6
    by_cases hk2 : k < p1
    · have hK2 : K k = 2 := HSP.out.2.2.1 k hk0 hk2
      obtain ⟨r, hr8, hr⟩ : ∃ r : Nat, r < 8 ∧ j.N k = (r : Int) := by
        have := HJ.out.res k hk0 hkL (by omega)
        exact ⟨(j.N k).toNat, by omega, by omega⟩
      rw [hK2] at y0
      have HCALL : Hid (Calls Tryz.prog 116 #[.pointer (some ⟨jb, 0, none⟩)] wr.drew fun e w' => e = .returned (.agg #[.int .i64 2, .int .i64 (r : Int)]) ∧
          RunInv w w' mb jb rb cap L t f K { j with p := k + 1 } (restV rb cap L (k + 1)) (setTo j.N t h j.p (k - j.p)) ∧ w'.cell? ⟨jb, 0, none⟩ = some (.int .i64 t) ∧ w'.cell? ⟨mb, 12 + r, none⟩ = some (.int .i64 (setTo j.N t h j.p (k - j.p) r)) ∧ w'.frozen? ⟨mb, 12 + r, none⟩ = false) := by
        unfold Hid
        refine (next_at (j := { j with p := k }) HINV.out.drew hkL).mono ?_
        rintro e w' ⟨v, rfl, hv, hinv, hc⟩
        have hv' := hv.1 (by have := HSL.out.1; show k + 1 < L; omega)
        subst hv'
        refine ⟨by show Ending.returned (.agg #[.int .i64 (K k), .int .i64 (j.N k)]) = _; rw [hK2, hr], hinv, hc, ?_, hinv.mrow.frozen _⟩
        rw [hinv.mrow.cell (by omega)]
        unfold mh
        rw [if_pos (by omega), show 12 + r - 12 = r from by omega]
      have hm0 : restLen jb wr = L - k := by unfold restLen; rw [x6]
      have HM0 : Hid (restLen jb wr = L - k) := hm0
      clear hm0
      go_wp2_with fail
      go_region_with (go_at_call 116; refine (HCALL.out).mono ?_; rintro e w2 ⟨rfl, hinv2, z0, z12, f12⟩)
      all_goals
        have FIN : Hid (RunInv w (w2.setCell ⟨mb, 12 + r, none⟩ (.int .i64 t)) mb jb rb cap L t f K { j with p := k + 1 } (restV rb cap L (k + 1)) (setTo j.N t h j.p (k + 1 - j.p))) := lock_step hinv2 hk0 hr hr8
        have HM1 : Hid (restLen jb (w2.setCell ⟨mb, 12 + r, none⟩ (.int .i64 t)) = L - (k + 1)) := by
          unfold Hid restLen
          rw [(jcell_cells FIN.out.jrow).2.2]
          rfl
        clear hinv2 z0 HCALL x0 x4 x6 y0 y1
        go_wp2
        go_roundw
        case rel => exact ⟨k + 1, by omega, by omega, FIN.out⟩
        case measure => rw [HM1.out, HM0.out]; omega
    · obtain rfl : k = p1 := by omega
      have hK1 : K k = 1 := HSL.out.2
      rw [hK1] at y0
      have hn := HJ.out.comp k hk0 hkL hK1
      have z4 := HINV.out.jrow.frozen 4
      have zs := HINV.out.srow.frozen (k * 2 + 1)
      obtain ⟨g, hg⟩ := HINV.out.srow.row
      have hjr : jb ≠ rb := row_ne HINV.out.jrow hg (by decide)
      have hmj : mb ≠ jb := row_ne HINV.out.mrow HINV.out.jrow (by decide)
      have hmr : mb ≠ rb := row_ne HINV.out.mrow hg (by decide)
      clear hg
      have hd1 : 1 ≤ L - k := by omega
      have HW : Hid (RunInv w ((wr.setCell ⟨jb, 4, none⟩ (.int .i64 (j.left - 1))).setCell ⟨rb, k * 2 + 1, none⟩ (.int .i64 (j.N k - 1))) mb jb rb cap L t f K { j with left := j.left - 1, p := k, N := upd j.N k (j.N k - 1) } (restV rb cap L k) (setTo j.N t h j.p (k - j.p))) := use_step HINV.out (j.N k - 1)
      by_cases hx : 0 < j.N k - 1
      · have HE : Hid (runK K L t h j = (setTo j.N t h j.p (k - j.p), { j with left := j.left - 1, p := k, N := upd j.N k (j.N k - 1) })) := by
          unfold Hid runK
          simp only []
          rw [← HP1.out, if_pos hx]
        go_wp2_with fail
        refine bodyPost_ret (results_none rfl _ _ _) rfl ?_
        refine ⟨rfl, restV rb cap L k, ?_, ?_⟩
        · rw [HE.out]; exact ⟨fun _ => rfl, fun e => by have e' : k = L := e; omega⟩
        · rw [HE.out]; exact HW.out
      · obtain ⟨p2, hp2⟩ : ∃ p2, p2 = skip K 3 L (k + 1) := ⟨_, rfl⟩
        have HE : Hid (runK K L t h j = (setTo j.N (-1) (setTo j.N t h j.p (k - j.p)) (k + 1) (p2 - (k + 1)), { j with left := j.left - 1, p := p2, N := upd j.N k (j.N k - 1) })) := by
          unfold Hid runK
          simp only []
          rw [← HP1.out, if_neg hx, ← hp2]
        have hsp2 := skip_spec K 3 (L := L) (p := k + 1) (by omega)
        rw [← hp2] at hsp2
        have HSP2 : Hid (k + 1 ≤ p2 ∧ p2 ≤ L ∧ (∀ i, k + 1 ≤ i → i < p2 → K i = 3) ∧ (p2 < L → K p2 ≠ 3)) := hsp2
        clear hsp2 hp2
        have HCALL : Hid (Calls Tryz.prog 116 #[.pointer (some ⟨jb, 0, none⟩)] ((wr.setCell ⟨jb, 4, none⟩ (.int .i64 (j.left - 1))).setCell ⟨rb, k * 2 + 1, none⟩ (.int .i64 (j.N k - 1))) fun e w' => ∃ v y, e = .returned (.agg #[.int .i64 1, .int .i64 y]) ∧ RestAt rb cap L (k + 1) v ∧
            RunInv w w' mb jb rb cap L t f K { j with left := j.left - 1, p := k + 1, N := upd j.N k (j.N k - 1) } v (setTo j.N t h j.p (k - j.p))) := by
          unfold Hid
          refine (next_at (j := { j with left := j.left - 1, p := k, N := upd j.N k (j.N k - 1) }) HW.out hkL).mono ?_
          rintro e w' ⟨v, rfl, hv, hinv, _⟩
          exact ⟨v, _, by show Ending.returned (.agg #[.int .i64 (K k), _]) = _; rw [hK1], hv, hinv⟩
        go_wp2_with fail
        refine (HCALL.out).mono ?_
        rintro e w3 ⟨v3, y3, rfl, hv3, hinv3⟩
        have HV3 : Hid (RestAt rb cap L (k + 1) v3) := hv3
        have HI3 : Hid (RunInv w w3 mb jb rb cap L t f K { j with left := j.left - 1, p := k + 1, N := upd j.N k (j.N k - 1) } v3 (setTo j.N t h j.p (k - j.p))) := hinv3
        clear hv3 hinv3 HCALL x0 x4 x6 y0 y1 z4 zs HW HINV
        go_wp2_with fail
        go_loopw [56] (fun _ wr => ∃ k2 v, k + 1 ≤ k2 ∧ k2 ≤ p2 ∧ RestAt rb cap L k2 v ∧ RunInv w wr mb jb rb cap L t f K { j with left := j.left - 1, p := k2, N := upd j.N k (j.N k - 1) } v (setTo j.N (-1) (setTo j.N t h j.p (k - j.p)) (k + 1) (k2 - (k + 1)))) (fun _ wr => restLen jb wr)
        case atStart => exact ⟨k + 1, v3, Nat.le_refl _, HSP2.out.1, HV3.out, by rw [Nat.sub_self]; exact HI3.out⟩
        case round =>
          obtain ⟨k2, v, hk3, hk4, hrest, hinv⟩ := hrel
          obtain ⟨x0, x4, x6⟩ := jcell_cells hinv.jrow
          have hlc := hinv.srow.1
          have hmbw2 := hinv.mrow.lt
          have hjbw2 := hinv.jrow.lt
          have hrbw2 := hinv.srow.lt
          have HINV : Hid (RunInv w wr mb jb rb cap L t f K { j with left := j.left - 1, p := k2, N := upd j.N k (j.N k - 1) } v (setTo j.N (-1) (setTo j.N t h j.p (k - j.p)) (k + 1) (k2 - (k + 1)))) := hinv
          have HR : Hid (RestAt rb cap L k2 v) := hrest
          clear hrest
          by_cases hk5 : k2 < L
          · have hv := HR.out.1 hk5
            subst hv
            have y0 := hinv.srow.at0 hk5
            clear hinv
            unfold restV at x6
            have hd2 : 1 ≤ L - k2 := by omega
            by_cases hk6 : k2 < p2
            · have hK3 : K k2 = 3 := HSP2.out.2.2.1 k2 hk3 hk6
              rw [hK3] at y0
              obtain ⟨r, hr8, hr⟩ : ∃ r : Nat, r < 8 ∧ j.N k2 = (r : Int) := by
                have := HJ.out.res k2 (by omega) hk5 (by omega)
                exact ⟨(j.N k2).toNat, by omega, by omega⟩
              have hm0 : restLen jb wr = L - k2 := by unfold restLen; rw [x6]
              have HM0 : Hid (restLen jb wr = L - k2) := hm0
              clear hm0
              have HCALL : Hid (Calls Tryz.prog 116 #[.pointer (some ⟨jb, 0, none⟩)] wr.drew fun e w' => ∃ v, e = .returned (.agg #[.int .i64 3, .int .i64 (r : Int)]) ∧ RestAt rb cap L (k2 + 1) v ∧
                  RunInv w w' mb jb rb cap L t f K { j with left := j.left - 1, p := k2 + 1, N := upd j.N k (j.N k - 1) } v (setTo j.N (-1) (setTo j.N t h j.p (k - j.p)) (k + 1) (k2 - (k + 1))) ∧ w'.cell? ⟨mb, 12 + r, none⟩ = some (.int .i64 (setTo j.N (-1) (setTo j.N t h j.p (k - j.p)) (k + 1) (k2 - (k + 1)) r)) ∧ w'.frozen? ⟨mb, 12 + r, none⟩ = false) := by
                unfold Hid
                refine (next_at (j := { j with left := j.left - 1, p := k2, N := upd j.N k (j.N k - 1) }) HINV.out.drew hk5).mono ?_
                rintro e w' ⟨v, rfl, hv, hinv, hc⟩
                refine ⟨v, by show Ending.returned (.agg #[.int .i64 (K k2), .int .i64 (upd j.N k (j.N k - 1) k2)]) = _; rw [hK3, upd_other _ _ (by omega), hr], hv, hinv, ?_, hinv.mrow.frozen _⟩
                rw [hinv.mrow.cell (by omega)]
                unfold mh
                rw [if_pos (by omega), show 12 + r - 12 = r from by omega]
              clear x0 x4
              go_wp2_with fail
              go_region_with (go_at_call 116; refine (HCALL.out).mono ?_; rintro e w2 ⟨v2, rfl, hv2, hinv2, z12, f12⟩)
              all_goals
                have FIN : Hid (RunInv w (w2.setCell ⟨mb, 12 + r, none⟩ (.int .i64 (-1))) mb jb rb cap L t f K { j with left := j.left - 1, p := k2 + 1, N := upd j.N k (j.N k - 1) } v2 (setTo j.N (-1) (setTo j.N t h j.p (k - j.p)) (k + 1) (k2 + 1 - (k + 1)))) := by
                  have := hold_step (d := k2 - (k + 1)) hinv2 (by rw [show k + 1 + (k2 - (k + 1)) = k2 from by omega]; exact hr) hr8
                  rw [show k2 - (k + 1) + 1 = k2 + 1 - (k + 1) from by omega] at this
                  exact this
                have HV2 : Hid (RestAt rb cap L (k2 + 1) v2) := hv2
                have HM1 : Hid (restLen jb (w2.setCell ⟨mb, 12 + r, none⟩ (.int .i64 (-1))) = L - (k2 + 1)) := by
                  unfold Hid restLen
                  rw [(jcell_cells FIN.out.jrow).2.2]
                  by_cases hl : k2 + 1 < L
                  · rw [HV2.out.1 hl]; rfl
                  · obtain ⟨ao, c, rfl⟩ := HV2.out.2 (by omega)
                    show 0 = _
                    omega
                clear hinv2 hv2 HCALL x6 y0
                go_wp2
                go_roundw
                case rel => exact ⟨k2 + 1, v2, by omega, by omega, HV2.out, FIN.out⟩
                case measure => rw [HM1.out, HM0.out]; omega
            · obtain rfl : k2 = p2 := by omega
              have hK3 : (K k2 == 3) = false := by simpa using HSP2.out.2.2.2 hk5
              go_wp2_with fail
              go_end0
              refine ⟨rfl, restV rb cap L k2, ?_, ?_⟩
              · rw [HE.out]; exact HR.out
              · rw [HE.out]; exact HINV.out
          · obtain rfl : k2 = L := by have := HSP2.out.2.1; omega
            obtain ⟨ao, c, hv⟩ := HR.out.2 rfl
            subst hv
            have hp2 : k2 = p2 := by have := HSP2.out.2.1; omega
            subst hp2
            clear hinv
            go_wp2_with fail
            go_end0
            refine ⟨rfl, .slice ao 0 c, ?_, ?_⟩
            rotate_left
            · rw [HE.out]; exact HINV.out
            · rw [HE.out]; exact HR.out
end Go.Proofs.YtdabcflpcklfiaaGreat
