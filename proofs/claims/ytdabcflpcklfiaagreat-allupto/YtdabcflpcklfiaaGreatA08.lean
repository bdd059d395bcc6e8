import Derived.Test.YtdabcflpcklfiaaGreatA05
import Derived.Test.YtdabcflpcklfiaaGreatA06
import Derived.Test.YtdabcflpcklfiaaGreatA07
import Derived.Deep.Cut
/- A job arrives. -/
namespace Go.Proofs.YtdabcflpcklfiaaGreat
open Go.RowKit Cad

/-- Putting in, as an equation. -/
theorem run_jput {w : World} {b n : Nat} {M : Nat → Nat → Option Nat} {t i g : Nat} (ht : t ≤ 9223372036854775807) (hi : i ≤ 9223372036854775807) (hn : n < maxLen) (hj : JMap w b n M) :
    ∃ w', (Instr.mapUpdate 138 (.map (some b)) (keyV t i) (.pointer (some ⟨g, 0, none⟩))).run Tryz.prog w = .ok () w' ∧ JMap w' b (n + 1) (mput M t i (some g)) ∧ Fr (fun i => i = b) w w' := by
  obtain ⟨D, hown, hat, honly⟩ := hj
  have hmap : Maps.IsMap D := hown.isMap
  obtain ⟨w', hrun, h1, h2⟩ := hown.store Tryz.keyed Tryz.underlying138 hn (val := .pointer (some ⟨g, 0, none⟩)) (d := .lit (.int .i64 (g : Int))) (ps := []) (key_of ht hi) rfl
  refine ⟨w', hrun, ⟨_, h1, ?_, ?_⟩, fr_turned h2⟩
  · intro t' i' ht' hi'
    unfold mput
    by_cases e : t' = t ∧ i' = i
    · obtain ⟨rfl, rfl⟩ := e
      rw [if_pos ⟨rfl, rfl⟩, Maps.atKey_put_same hmap (Tryz.keyed.key (key_of ht hi))]
      rfl
    · rw [if_neg e, Maps.atKey_put_other (fun h => e (keyL_inj ht' hi' ht hi h))]
      exact hat t' i' ht' hi'
  · intro l hl
    by_cases e : l = keyL t i
    · exact ⟨t, i, ht, hi, e, by simp [mput]⟩
    · rw [Maps.has_put_other e] at hl
      obtain ⟨t', i', h1, h2, h3, h4⟩ := honly l hl
      refine ⟨t', i', h1, h2, h3, ?_⟩
      unfold mput
      rw [if_neg (fun h => e (by rw [h3, h.1, h.2]))]
      exact h4

theorem refuse_eq (S : Sy) (m : Mc) (t : Nat) (jit : Int) (D : Nat → Int) (d : Nat) : refuse S m t jit D d = refuseN ((m.done t : Int) + ((m.q t).length : Int)) (m.done t) (m.last t) (S.P t) (S.J t) m.now jit ((fitsB (S.K t) (S.N t) (S.L t) D d)) := by
  have e1 : (0 < m.done t + (m.q t).length) = (0 < ((m.done t : Int) + ((m.q t).length : Int))) := propext ⟨fun h => by omega, fun h => by omega⟩
  have e2 : (8 ≤ (m.q t).length) = (8 ≤ ((m.done t : Int) + ((m.q t).length : Int)) - (m.done t : Int)) := propext ⟨fun h => by omega, fun h => by omega⟩
  unfold refuse refuseN
  simp only [e1, e2]

theorem Moved.refl {S : Sy} {m : Mc} {Y : Lay} {w w' : World} (h : MAt w S m Y) (hs : Sep S m Y) (hb : Below w.heap.size w w') : Moved S m m Y Y w w' := ⟨h.below hb, hs, Fr.of_below _ hb, fun _ hf => .inl hf, rfl⟩

set_option maxRecDepth 100000 in
set_option maxHeartbeats 1000000 in
/-- No such task. -/
theorem marrive_none (S : Sy) (m : Mc) (Y : Lay) (x jit : Int) (v : Value) (w : World) (ho : Ok S m) (h : MAt w S m Y) (hs : Sep S m Y) (hx : x < 0 ∨ (S.n : Int) ≤ x) :
    Calls Tryz.prog 73 #[.pointer (some ⟨Y.mb, 0, none⟩), .int .i64 x, .int .i64 jit, v] w fun e w' => e = .returned (.int .i64 5) ∧ Moved S m m Y Y w w' := by
  have c3 := h.mc.2.1
  have HMV : Hid (Moved S m m Y Y w w) := Moved.refl h hs (Below.refl _ _)
  have h8 := ho.eight
  clear h hs ho
  by_cases h0 : x < 0
  · clear hx
    go_enter Tryz.func73, Tryz.ntmps73
    go_wp2
    go_ret
    exact ⟨rfl, HMV.out⟩
  · have h1 : (S.n : Int) ≤ x := by omega
    clear hx
    go_enter Tryz.func73, Tryz.ntmps73
    go_wp2
    go_ret
    exact ⟨rfl, HMV.out⟩

set_option maxRecDepth 100000 in
set_option maxHeartbeats 2000000 in
theorem marrive_task (S : Sy) (m : Mc) (Y : Lay) (t : Nat) (jit : Int) (db dof d dc : Nat) (D : Nat → Int) (ao : Option Addr) (w : World) (ho : Ok S m) (ht : t < S.n) (h : MAt w S m Y) (hs : Sep S m Y) (har : m.arrd < 1000000000000000000) (hd : d ≤ 9223372036854775806)
    (hD : 1 ≤ d → ao = some ⟨db, dof, none⟩ ∧ db < w.heap.size ∧ IntsIn w db dof d D) (r : Int) (m' : Mc) (hr : r = refuse S m t jit D d) (hm' : m' = if r ≠ 0 then m else added S m t jit D) :
    Calls Tryz.prog 73 #[.pointer (some ⟨Y.mb, 0, none⟩), .int .i64 t, .int .i64 jit, .slice ao d dc] w fun e w' => e = .returned (.int .i64 r) ∧ ∃ Y', Moved S m m' Y Y' w w' := by
  have HRR : Hid (r = refuse S m t jit D d) := hr
  have HMM : Hid (m' = if r ≠ 0 then m else added S m t jit D) := hm'
  clear hr hm'
  obtain ⟨c0, c3, c20⟩ := h.mc
  have h8 := ho.eight
  have hlen := ho.len t ht
  have hmany := ho.many t ht
  have harr := ho.arrd
  have hper := ho.per t ht
  have n0 := ho.now0
  have n1 := ho.now1
  have hln := ho.lastn t ht
  have q0 := h.tc ht (c := 0) (by omega)
  change w.cell? _ = some (.int .i64 (S.P t)) at q0
  have q1 := h.tc ht (c := 1) (by omega)
  change w.cell? _ = some (.int .i64 (S.J t)) at q1
  have q3 := h.tc ht (c := 3) (by omega)
  change w.cell? _ = some (.slice (some ⟨Y.pb t, 0, none⟩) (S.L t) (Y.pc t)) at q3
  have q4 := h.tc ht (c := 4) (by omega)
  change w.cell? _ = some (.int .i64 ((m.done t : Int) + ((m.q t).length : Int))) at q4
  have q5 := h.tc ht (c := 5) (by omega)
  change w.cell? _ = some (.int .i64 (m.done t)) at q5
  have q6 := h.tc ht (c := 6) (by omega)
  change w.cell? _ = some (.int .i64 (m.last t)) at q6
  have HRF : Hid (Calls Tryz.prog 101 #[.pointer (some ⟨Y.tb, t * 7, none⟩), .int .i64 m.now, .int .i64 jit, .slice ao d dc] w fun e w' => e = .returned (.int .i64 r) ∧ Below w.heap.size w w') := by
    unfold Hid
    rw [HRR.out, refuse_eq]
    exact refusal_any Y.tb (t * 7) (Y.pb t) (Y.pc t) db dof d dc (S.L t) (S.K t) (S.N t) D ao _ _ _ _ _ m.now jit w hlen.2 hd h.trow.lt (h.prow t ht).lt q0 q1 q3 q4 q5 q6 (by omega) (by omega) (by omega) (by omega) (h.prow t ht).steps hD
  have HM : Hid (MAt w S m Y) := h
  have HS : Hid (Sep S m Y) := hs
  have HO : Hid (Ok S m) := ho
  have HD : Hid (1 ≤ d → ao = some ⟨db, dof, none⟩ ∧ db < w.heap.size ∧ IntsIn w db dof d D) := hD
  have ht8 : (t : Int) < (S.n : Int) := by omega
  clear h hs ho hD q0 q1 q3 q4 q5 q6 c20
  go_enter Tryz.func73, Tryz.ntmps73
  go_wp2_with fail
  refine (HRF.out).mono ?_
  rintro e w1 ⟨rfl, hb1⟩
  have HB1 : Hid (Below w.heap.size w w1) := hb1
  have hs1 := hb1.size
  clear hb1 HRF c0 c3
  by_cases hr : r = 0
  · subst hr
    have hfit : Fits (S.K t) (S.N t) (S.L t) D d ∧ 0 ≤ jit ∧ jit ≤ S.J t ∧ (m.q t).length < 8 := by
      have := HRR.out
      unfold refuse at this
      split at this
      · omega
      · split at this
        · omega
        · split at this
          · omega
          · split at this
            · omega
            · rename_i h1 h2 h3 h4
              exact ⟨by simpa using h3, by omega, by omega, by omega⟩
    have HE : Hid (m' = added S m t jit D) := by unfold Hid; rw [HMM.out, if_neg (by simp)]
    have hm1 := HM.out.below HB1.out
    obtain ⟨d0, d3, d20⟩ := hm1.mc
    have d4 := hm1.tc ht (c := 4) (by omega)
    change w1.cell? _ = some (.int .i64 ((m.done t : Int) + ((m.q t).length : Int))) at d4
    have HNJ : Hid (Calls Tryz.prog 102 #[.pointer (some ⟨Y.mb, 0, none⟩), .int .i64 t, .int .i64 jit, .slice ao d dc] w1.drew fun e w' => ∃ jb rb rc w3, e = .returned (.pointer (some ⟨jb, 0, none⟩)) ∧
        (Instr.mapUpdate 138 (.map (some Y.jm)) (.agg #[.int .i64 (t : Int), .int .i64 ((m.done t : Int) + ((m.q t).length : Int))]) (.pointer (some ⟨jb, 0, none⟩))).run Tryz.prog w' = .ok () w3 ∧
        w'.cell? ⟨Y.mb, 20, none⟩ = some (.map (some Y.jm)) ∧ w'.cell? ⟨Y.tb, t * 7 + 4, none⟩ = some (.int .i64 ((m.done t : Int) + ((m.q t).length : Int))) ∧
        w.heap.size ≤ jb ∧ w.heap.size ≤ rb ∧ JMap w3 Y.jm (m.arrd.toNat + 1) (mput (live S m Y) t (m.done t + (m.q t).length) (some jb)) ∧ w3.rowIs jb 160 7 (jcell t (jobOf S m t jit D) (-1) (restV rb rc (S.L t) 0)) ∧ StepRow w3 rb rc (S.K t) (numOf (S.K t) (S.N t) D) (S.L t) ∧ Fr (fun i => i = Y.jm) w w3) := by
      unfold Hid
      have hm1d : MAt w1.drew S m Y := hm1.same (fun _ _ => rfl)
      refine (newJob_any S m Y t jit db dof d dc D ao w1.drew HO.out ht hm1d hfit.2.1 (by omega) hd hfit.1 (fun hh => by
        obtain ⟨e, hdb, hi⟩ := HD.out hh
        exact ⟨e, by show db < w1.heap.size; omega, fun i hq => (HB1.out.cell (p := ⟨db, dof + i, none⟩) hdb).trans (hi i hq)⟩)).mono ?_
      rintro e w2 ⟨jb, rb, rc, rfl, hjb, hrb, hjr, hsr, hb2⟩
      have hm2 := hm1d.below hb2
      obtain ⟨w3, hrun, hj3, hf3⟩ := run_jput (t := t) (i := m.done t + (m.q t).length) (g := jb) (by omega) (by omega) (by unfold maxLen; omega) hm2.jmap
      have hjn := hm2.jmap.ne hjr
      obtain ⟨ff, hff⟩ := hsr.row
      have hrn := hm2.jmap.ne hff
      have e4 := hm2.tc ht (c := 4) (by omega)
      refine ⟨jb, rb, rc, w3, rfl, ?_, hm2.mc.2.2, e4, by have h1 : w1.heap.size ≤ jb := hjb; omega, by have h1 : w1.heap.size ≤ rb := hrb; omega, hj3, hf3.row hjr hjn.symm, hsr.of_block (hf3.block _ hsr.lt hrn.symm), ?_⟩
      · have : keyV t (m.done t + (m.q t).length) = .agg #[.int .i64 (t : Int), .int .i64 ((m.done t : Int) + ((m.q t).length : Int))] := by unfold keyV; simp
        rw [← this]
        exact hrun
      · exact (((Fr.of_below _ HB1.out).drew).then (Fr.of_below _ hb2)).then hf3
    have hmw := hm1.mrow.lt
    have htw := hm1.trow.lt
    clear hm1 d3
    go_upto_region 7 with fail
    go_cut [10] from 11 (fun _ wc => ∃ jb rb rc, w.heap.size ≤ jb ∧ w.heap.size ≤ rb ∧ JMap wc Y.jm (m.arrd.toNat + 1) (mput (live S m Y) t (m.done t + (m.q t).length) (some jb)) ∧ wc.rowIs jb 160 7 (jcell t (jobOf S m t jit D) (-1) (restV rb rc (S.L t) 0)) ∧ StepRow wc rb rc (S.K t) (numOf (S.K t) (S.N t) D) (S.L t) ∧ Fr (fun i => i = Y.jm) w wc)
    case first =>
      go_region_with (go_at_call 102; refine (HNJ.out).mono ?_; rintro e w2 ⟨jb, rb, rc, w3, rfl, hrun3, x20, x4, k1, k2, k3, k4, k5, k6⟩)
      all_goals
        go_wp2_with fail
        go_meet
        case rel => exact ⟨jb, rb, rc, k1, k2, k3, k4, k5, k6⟩
    case rest =>
      obtain ⟨jb, rb, rc, k1, k2, k3, k4, k5, k6⟩ := hcut
      clear d0 d20 d4 HNJ hmw htw
      have hm0 := HM.out
      have mx := hm0.jmap.ne hm0.mrow
      have tx := hm0.jmap.ne hm0.trow
      have hmt : Y.mb ≠ Y.tb := row_ne hm0.mrow hm0.trow (by decide)
      have mr := k6.row hm0.mrow mx.symm
      have tr := k6.row hm0.trow tx.symm
      have c0 : wc.cell? ⟨Y.mb, 0, none⟩ = some (.int .i64 m.now) := by rw [mr.cell (by omega)]; rfl
      have c2 : wc.cell? ⟨Y.mb, 2, none⟩ = some (.int .i64 m.arrd) := by rw [mr.cell (by omega)]; rfl
      have c4 : wc.cell? ⟨Y.tb, t * 7 + 4, none⟩ = some (.int .i64 ((m.done t : Int) + ((m.q t).length : Int))) := by
        rw [tr.cell (by omega)]
        unfold tcell
        rw [show (t * 7 + 4) / 7 = t from by omega, show (t * 7 + 4) % 7 = 4 from by omega]
        rfl
      have c6 : wc.cell? ⟨Y.tb, t * 7 + 6, none⟩ = some (.int .i64 (m.last t)) := by
        rw [tr.cell (by omega)]
        unfold tcell
        rw [show (t * 7 + 6) / 7 = t from by omega, show (t * 7 + 6) % 7 = 6 from by omega]
        rfl
      have f2 := mr.frozen 2
      have f4 := tr.frozen (t * 7 + 4)
      have f6 := tr.frozen (t * 7 + 6)
      have HMV : Hid (Moved S m m' Y (Y.more t (m.done t + (m.q t).length) jb rb rc) w (((wc.setCell ⟨Y.tb, t * 7 + 4, none⟩ (.int .i64 ((m.done t : Int) + ((m.q t).length : Int) + 1))).setCell ⟨Y.tb, t * 7 + 6, none⟩ (.int .i64 m.now)).setCell ⟨Y.mb, 2, none⟩ (.int .i64 (m.arrd + 1)))) := by
        unfold Hid
        rw [HE.out]
        have jbn : jb ≠ Y.mb ∧ jb ≠ Y.tb := ⟨row_ne k4 mr (by decide), row_ne k4 tr (by decide)⟩
        obtain ⟨ff, hff⟩ := k5.row
        have rbn : rb ≠ Y.mb ∧ rb ≠ Y.tb := ⟨row_ne hff mr (by decide), row_ne hff tr (by decide)⟩
        refine MAt.added hm0 HS.out HO.out ht ?_ ?_ ?_ ?_ ?_ ?_ k1 k2
        · exact (((k6.mono (fun i hi => .inr (.inr hi))).setCell (a := ⟨Y.tb, t * 7 + 4, none⟩) (.inl (.inr (.inl rfl))) _).setCell (a := ⟨Y.tb, t * 7 + 6, none⟩) (.inl (.inr (.inl rfl))) _).setCell (a := ⟨Y.mb, 2, none⟩) (.inl (.inl rfl)) _
        · exact (((mr.setOther (by simpa using hmt) _).setOther (by simpa using hmt) _).set 2 _)
        · exact ((tr.set (t * 7 + 4) _).set (t * 7 + 6) _).setOther (by simpa using hmt.symm) _
        · exact k3.of_block (((Deep.blk_setCell_other _ _ _ _ (by simpa using mx)).trans (Deep.blk_setCell_other _ _ _ _ (by simpa using tx))).trans (Deep.blk_setCell_other _ _ _ _ (by simpa using tx)))
        · exact ((k4.setOther (by simpa using jbn.2) _).setOther (by simpa using jbn.2) _).setOther (by simpa using jbn.1) _
        · exact k5.of_block (((Deep.blk_setCell_other _ _ _ _ (by simpa using rbn.1)).trans (Deep.blk_setCell_other _ _ _ _ (by simpa using rbn.2))).trans (Deep.blk_setCell_other _ _ _ _ (by simpa using rbn.2)))
      clear hm0 mr tr k3 k4 k5 k6 mx tx
      go_wp2
      go_ret
      exact ⟨rfl, _, HMV.out⟩
  · have hrb : (r != 0) = true := by simpa using hr
    have HMV : Hid (Moved S m m' Y Y w w1) := by
      unfold Hid
      rw [HMM.out, if_pos hr]
      exact Moved.refl HM.out HS.out HB1.out
    clear hr
    go_wp2
    go_ret
    exact ⟨rfl, Y, HMV.out⟩
end Go.Proofs.YtdabcflpcklfiaaGreat
