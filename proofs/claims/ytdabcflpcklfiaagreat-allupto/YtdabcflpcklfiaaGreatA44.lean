import Derived.Test.YtdabcflpcklfiaaGreatA43
import Derived.Test.YtdabcflpcklfiaaGreatA40
/- The law: a list of jobs is marked and kept, walked. -/
namespace Go.Proofs.YtdabcflpcklfiaaGreat
open Go.RowKit Cad

theorem cells5_at (X : World) (n : Nat) (hn : n = X.heap.size) (a b c d e : Value) (t : Nat) : ∀ (j : Nat) (u : Value), [a, b, c, d, e][j]? = some u → (X.alloc (.cells #[a, b, c, d, e] t)).cell? ((⟨n, 0, none⟩ : Addr).add j) = some u := by
  subst hn
  exact cells5_new X a b c d e t

/-- What keepJobs leaves. -/
structure KJEnd (w w' : World) (Wb g : Nat) (M E M' E' : Nat → Prop) (V V' : Nat → Value) (C C' : Nat → List Value) (last : Int) : Prop where
  lm : LM M' w' Wb V' C' (last - 1)
  le : LE E' w' C'
  dis : Dis M' E'
  mf : ∀ q, M' q → M q ∨ (w.heap.size ≤ q ∧ q < w'.heap.size)
  ef : ∀ q, E' q → E q ∨ q = g ∨ (w.heap.size ≤ q ∧ q < w'.heap.size)
  fr : Fr (fun q => M q ∨ q = g) w w'
  c0 : C' 0 = C 0 ∧ V' 0 = V 0
  cl : ∀ i, i < 8 → (C' i).length ≤ (C i).length + 4

set_option maxRecDepth 100000 in
set_option maxHeartbeats 16000000 in
theorem keepJobs_any {w : World} {Wb g n : Nat} {V : Nat → Value} {C : Nat → List Value} {last : Int} {M E : Nat → Prop} {f : Nat → Value} (hm : LM M w Wb V C last) (he : LE E w C) (hd : Dis M E) (hloM : Lo M w.heap.size) (hloE : Lo E w.heap.size) (hg : w.rowIs g 93 (n * 5) f) (hgM : ¬ M g) (hgE : ¬ E g) (hn : n ≤ 1000)
    (h0 : -1000000000000 ≤ last) (h1 : last ≤ 0) (hC : ∀ i, i < 8 → (C i).length ≤ 1000000000000) :
    Calls Tryz.prog 79 #[.pointer (some ⟨Wb, 0, none⟩), .slice (some ⟨g, 0, none⟩) n n] w fun e w' => e = .returned (.tuple #[]) ∧ ∃ M' E' V' C', KJEnd w w' Wb g M E M' E' V V' C C' last := by
  obtain ⟨i3, hi3, hz30, hz31, hz32⟩ := info_parts Tryz.info3
  obtain ⟨i0, hi0, hz00, hz01, hz02⟩ := info_parts Tryz.info90
  obtain ⟨i9, hi9, hz90, hz91, hz92⟩ := info_parts Tryz.info93
  have HM : Hid (LM M w Wb V C last) := hm
  have HE : Hid (LE E w C) := he
  have HX : Hid (Dis M E ∧ Lo M w.heap.size ∧ Lo E w.heap.size ∧ ¬ M g ∧ ¬ E g) := ⟨hd, hloM, hloE, hgM, hgE⟩
  have HG : Hid (w.rowIs g 93 (n * 5) f) := hg
  have HC : Hid (∀ i, i < 8 → (C i).length ≤ 1000000000000) := hC
  clear hm he hd hloM hloE hg hgM hgE hC
  go_enter Tryz.func79, Tryz.ntmps79
  go_wp2_with fail
  refine (mark2_any HM.out h0 (by omega)).mono ?_
  rintro e w1 ⟨rfl, hw1⟩
  obtain ⟨hl1, hl2⟩ := HM.out.setLast (last' := last - 1)
  rw [← hw1] at hl1 hl2
  have hgW : g ≠ Wb := rows_ne HG.out HM.out.row (by decide)
  have HG1 : Hid (w1.rowIs g 93 (n * 5) f) := by unfold Hid; rw [hw1]; exact HG.out.setOther hgW _
  have hs1 : w1.heap.size = w.heap.size := by rw [hw1, Deep.nblk_setCell]
  have HM1 : Hid (LM M w1 Wb V C (last - 1)) := hl1
  have HF1 : Hid (Fr M w w1) := hl2
  clear hw1 hl1 hl2
  obtain ⟨mk, hmk⟩ : ∃ mk, mk = last - 1 - 100 := ⟨_, rfl⟩
  rw [← hmk]
  clear hmk
  obtain ⟨W1, hW1⟩ : ∃ W1, W1 = (w1.alloc (.cells #[.int .i64 mk, .int .i64 mk, .int .i64 mk, .int .i64 mk, .int .i64 mk] 93)) := ⟨_, rfl⟩
  have hbx := row5 w1 (.int .i64 mk) (.int .i64 mk) (.int .i64 mk) (.int .i64 mk) (.int .i64 mk) 93
  rw [← hW1] at hbx
  have hb1 : Below w1.heap.size w1 W1 := by rw [hW1]; exact below_alloc1 _ _
  have HBX : Hid (W1.rowIs w1.heap.size 93 5 (fun _ => .int .i64 mk)) := hbx.congr (fun q _ => by
    repeat' split
    all_goals rfl)
  have HM2 : Hid (LM M W1 Wb V C (last - 1)) := HM1.out.below hb1
  have HG2 : Hid (W1.rowIs g 93 (n * 5) f) := HG1.out.of_block (hb1.block _ HG1.out.lt)
  have HF2 : Hid (Fr M w W1) := HF1.out.then (Fr.of_below _ hb1)
  have hgl : g < w1.heap.size := HG1.out.lt
  have HW1 : Hid (W1 = (w1.alloc (.cells #[.int .i64 mk, .int .i64 mk, .int .i64 mk, .int .i64 mk, .int .i64 mk] 93))) := hW1
  have HS1 : Hid (w1.heap.size = w.heap.size) := hs1
  clear hbx hb1 hW1 hs1
  go_wp2_with fail
  rw [← HW1.out]
  generalize hbxe : w1.heap.size = bj at *
  have HBJ : Hid (bj = w.heap.size) := HS1.out
  clear hbxe HW1 HS1 HM1 HG1 HF1
  go_loopw [6] (fun iv wr => ∃ (i : Nat) (f' : Nat → Value), i ≤ n ∧ iv = .int .i64 i ∧ wr.rowIs g 93 (n * 5) f' ∧ (∀ q, q < i * 5 → f' q = .int .i64 mk) ∧ Fr (fun q => q = g) W1 wr) (fun iv _ => n - (intOf iv).toNat)
  case atStart => exact ⟨0, f, Nat.zero_le _, rfl, HG2.out, fun q hq => by omega, Fr.refl _ _⟩
  case round =>
    obtain ⟨i, f', hi, rfl, hrow, hf', hfr⟩ := hrel
    have hbl := HBX.out.lt
    by_cases hlt : i < n
    · have x0 : wr.cell? ⟨bj, 0, none⟩ = some (.int .i64 mk) := (hfr.cell hbl (fun e => by have e' : bj = g := e; omega)).trans (HBX.out.cell (by omega))
      have x1 : wr.cell? ⟨bj, 1, none⟩ = some (.int .i64 mk) := (hfr.cell hbl (fun e => by have e' : bj = g := e; omega)).trans (HBX.out.cell (by omega))
      have x2 : wr.cell? ⟨bj, 2, none⟩ = some (.int .i64 mk) := (hfr.cell hbl (fun e => by have e' : bj = g := e; omega)).trans (HBX.out.cell (by omega))
      have x3 : wr.cell? ⟨bj, 3, none⟩ = some (.int .i64 mk) := (hfr.cell hbl (fun e => by have e' : bj = g := e; omega)).trans (HBX.out.cell (by omega))
      have x4 : wr.cell? ⟨bj, 4, none⟩ = some (.int .i64 mk) := (hfr.cell hbl (fun e => by have e' : bj = g := e; omega)).trans (HBX.out.cell (by omega))
      have y0 : wr.cell? ⟨g, i * 5, none⟩ = some (f' (i * 5)) := hrow.cell (by omega)
      have y1 : wr.cell? ⟨g, i * 5 + 1, none⟩ = some (f' (i * 5 + 1)) := hrow.cell (by omega)
      have y2 : wr.cell? ⟨g, i * 5 + 2, none⟩ = some (f' (i * 5 + 2)) := hrow.cell (by omega)
      have y3 : wr.cell? ⟨g, i * 5 + 3, none⟩ = some (f' (i * 5 + 3)) := hrow.cell (by omega)
      have y4 : wr.cell? ⟨g, i * 5 + 4, none⟩ = some (f' (i * 5 + 4)) := hrow.cell (by omega)
      have z : ∀ q, wr.frozen? ⟨g, q, none⟩ = false := fun q => hrow.frozen q
      have hblr : bj < wr.heap.size := Nat.lt_of_lt_of_le hbl hfr.size
      have hglr := hrow.lt
      have FIN : Hid (∃ f2, (((((wr.setCell ⟨g, i * 5, none⟩ (.int .i64 mk)).setCell ⟨g, i * 5 + 1, none⟩ (.int .i64 mk)).setCell ⟨g, i * 5 + 2, none⟩ (.int .i64 mk)).setCell ⟨g, i * 5 + 3, none⟩ (.int .i64 mk)).setCell ⟨g, i * 5 + 4, none⟩ (.int .i64 mk)).rowIs g 93 (n * 5) f2 ∧ (∀ q, q < (i + 1) * 5 → f2 q = .int .i64 mk) ∧
          Fr (fun q => q = g) W1 (((((wr.setCell ⟨g, i * 5, none⟩ (.int .i64 mk)).setCell ⟨g, i * 5 + 1, none⟩ (.int .i64 mk)).setCell ⟨g, i * 5 + 2, none⟩ (.int .i64 mk)).setCell ⟨g, i * 5 + 3, none⟩ (.int .i64 mk)).setCell ⟨g, i * 5 + 4, none⟩ (.int .i64 mk))) := by
        refine ⟨_, ((((hrow.set (i * 5) _).set (i * 5 + 1) _).set (i * 5 + 2) _).set (i * 5 + 3) _).set (i * 5 + 4) _, fun q hq => ?_, ((((hfr.setCell (a := ⟨g, i * 5, none⟩) (.inl rfl) _).setCell (a := ⟨g, i * 5 + 1, none⟩) (.inl rfl) _).setCell (a := ⟨g, i * 5 + 2, none⟩) (.inl rfl) _).setCell (a := ⟨g, i * 5 + 3, none⟩) (.inl rfl) _).setCell (a := ⟨g, i * 5 + 4, none⟩) (.inl rfl) _⟩
        by_cases q4 : q = i * 5 + 4
        · rw [if_pos q4]
        · rw [if_neg q4]
          by_cases q3 : q = i * 5 + 3
          · rw [if_pos q3]
          · rw [if_neg q3]
            by_cases q2 : q = i * 5 + 2
            · rw [if_pos q2]
            · rw [if_neg q2]
              by_cases q1 : q = i * 5 + 1
              · rw [if_pos q1]
              · rw [if_neg q1]
                by_cases q0 : q = i * 5
                · rw [if_pos q0]
                · rw [if_neg q0]
                  exact hf' q (by omega)
      clear hrow hf' hfr
      go_wp2
      go_roundw
      case rel =>
        obtain ⟨f2, p1, p2, p3⟩ := FIN.out
        exact ⟨i + 1, f2, by omega, by go_num, p1, p2, p3⟩
      case measure => simp [intOf]; omega
    · obtain rfl : n = i := by omega
      have HKJ : Hid (KJ w wr Wb g n 0 bj M E M E V V C C (last - 1) mk (.slice (some ⟨g, 0, none⟩) n n)) := by
        have hwz : w.heap.size ≤ wr.heap.size := Nat.le_trans HF2.out.size hfr.size
        refine ⟨HM2.out.other hfr (fun q h1 h2 => HX.out.2.2.2.1 (h2 ▸ h1)), (HE.out.other HF2.out HX.out.1.symm).other hfr (fun q h1 h2 => HX.out.2.2.2.2 (h2 ▸ h1)), HX.out.1, fun q h => .inl h, fun q h => .inl h, (HF2.out.mono (fun q h => .inl h)).then (hfr.mono (fun q h => .inr h)), own_of_row (by unfold maxLen; omega) hrow hf', fun b hb => ?_, fun v hv ao len cap e1 e2 e3 => ?_, HBX.out.of_block (hfr.block bj hbl (fun e => by have e' : bj = g := e; omega)), ⟨by rw [HBJ.out]; exact Nat.le_refl _, fun h => ?_, fun h => ?_⟩, ⟨rfl, rfl⟩, fun i hi => by omega, HX.out.2.1.mono hwz, HX.out.2.2.1.mono hwz⟩
        · cases hb
          exact ⟨HX.out.2.2.2.1, by show g ≠ bj; omega, .inl rfl⟩
        · by_cases c : 1 ≤ len
          · obtain ⟨i, hi', ei⟩ := List.getElem_of_mem hv
            obtain ⟨_, _, ao', len', cap', ee, _, hc⟩ := HE.out.je i v (by rw [List.getElem?_eq_getElem hi', ei])
            rw [e1] at ee
            cases ee
            obtain ⟨g', ea, eg, _⟩ := hc c
            rw [e1, ea] at e2
            cases e2
            exact absurd eg HX.out.2.2.2.2
          · omega
        · have := HX.out.2.1 _ h; have := HBJ.out; omega
        · have := HX.out.2.2.1 _ h; have := HBJ.out; omega
      clear hrow hf' hfr
      go_wp2_with fail
      go_loopw [1, 7] (fun lv jv wr => ∃ (j : Nat) (M' E' : Nat → Prop) (V' : Nat → Value) (C' : Nat → List Value), j ≤ 4 ∧ jv = .int .i64 j ∧ KJ w wr Wb g n j bj M E M' E' V V' C C' (last - 1) mk lv) (fun _ jv _ => 4 - (intOf jv).toNat)
      case atStart => exact ⟨0, M, E, V, C, by omega, rfl, HKJ.out⟩
      case round =>
        obtain ⟨j, M', E', V', C', hj, rfl, hk⟩ := hrel
        by_cases hj4 : j < 4
        · obtain ⟨lo, lcap, hlsh⟩ := own_shapeK hk.own
          subst hlsh
          have HK : Hid (KJ w wr Wb g n j bj M E M' E' V V' C C' (last - 1) mk (.slice lo (n + j) lcap)) := hk
          obtain ⟨va, hva⟩ : ∃ va, va = V' 1 := ⟨_, rfl⟩
          have a1 : wr.cell? ⟨Wb, 1, none⟩ = some va := by rw [hva]; exact hk.lm.cellW (by omega)
          have hxA : wr.ownsRow 0 90 1 va (C' 1).length (C' 1) := by rw [hva]; exact hk.lm.own 1 (by omega)
          have hc1 : (C' 1).length ≤ 1000000000004 := by have := hk.cl 1 (by omega); have := HC.out 1 (by omega); omega
          have hc2 : (C' 2).length ≤ 1000000000004 := by have := hk.cl 2 (by omega); have := HC.out 2 (by omega); omega
          have hwl := hk.lm.row.lt
          have HVA : Hid (va = V' 1) := hva
          clear hk hva
          go_wp2_with (at_builtin; refine wpList_append_own3 _ rfl _ _ 27 rfl 0 90 i0 (.slice none 0 0) 1 24 Tryz.underlying27 hi0 hz00 hz01 hz02 rfl (by decide) _ _ _ rfl (hxA.alloc _) ⟨wr.heap.size, 0, none⟩ 1 1 [.slice lo (n + j) lcap] rfl rfl ?c1 ?c2 ?c3 ?c4 ?c5 ?_)
          any_goals (first | exact rfl | exact cell_one_at _ _ rfl _ _ | exact cell_one_at _ _ (by rw [Deep.nblk_setCell]) _ _ | exact one_oneCell rfl | (unfold maxLen; omega) | omega)
          intro vA wA hownA hgA
          rw [HVA.out] at hgA
          have hlmA := HK.out.lm.below (below_alloc1 wr (.cells #[.slice lo (n + j) lcap] 90))
          have hpA := (hlmA.push (i := 1) (by omega) (us := [.slice lo (n + j) lcap]) hownA hgA).1
          have hrowA := hlmA.row' (i := 1) (by omega) hgA
          obtain ⟨gA, capA, hvA⟩ := own_slice hownA
          have HOA : Hid _ := hownA
          have HGA : Hid _ := hgA
          obtain ⟨vb, hvb⟩ : ∃ vb, vb = V' 2 := ⟨_, rfl⟩
          have b1 : wA.cell? ⟨Wb, 1, none⟩ = some va := by rw [hrowA.cell (by omega), HVA.out]; rfl
          have b2 : wA.cell? ⟨Wb, 2, none⟩ = some vb := by rw [hrowA.cell (by omega), hvb]; rfl
          have bz : ∀ q, wA.frozen? ⟨Wb, q, none⟩ = false := fun q => hrowA.frozen q
          have hwlA := hrowA.lt
          have hxB : (wA.setCell ⟨Wb, 1, none⟩ vA).ownsRow 0 3 1 vb (C' 2).length (C' 2) := by
            have := hpA.own 2 (by omega)
            rw [upd_other _ _ (by decide), upd_other _ _ (by decide), ← hvb] at this
            exact this
          have HPA : Hid _ := hpA
          have HVB : Hid (vb = V' 2) := hvb
          clear hlmA hpA hrowA hownA hgA hxA a1 hvb
          have HVA2 : Hid (vA = .slice (some ⟨gA, 0, none⟩) ((C' 1).length + 1) capA) := hvA
          subst hvA
          go_wp2_with (at_builtin; refine wpList_append_own3 _ rfl _ _ 23 rfl 0 3 i3 (.int .i64 0) 1 8 Tryz.underlying23 hi3 hz30 hz31 hz32 rfl (by decide) _ _ _ rfl (hxB.alloc _) ⟨wA.heap.size, 0, none⟩ 1 1 [.int .i64 mk] rfl rfl ?d1 ?d2 ?d3 ?d4 ?d5 ?_)
          any_goals (first | exact rfl | exact cell_one_at _ _ rfl _ _ | exact cell_one_at _ _ (by rw [Deep.nblk_setCell]) _ _ | exact one_oneCell rfl | (unfold maxLen; omega) | omega)
          intro vB wB hownB hgB
          rw [HVB.out] at hgB
          have hlmB := HPA.out.below (below_alloc1 (wA.setCell ⟨Wb, 1, none⟩ (.slice (some ⟨gA, 0, none⟩) ((C' 1).length + 1) capA)) (.cells #[.int .i64 mk] 3))
          have e2 : upd V' 1 (Value.slice (some ⟨gA, 0, none⟩) ((C' 1).length + 1) capA) 2 = V' 2 := upd_other _ _ (by decide)
          have hrowB := hlmB.row' (i := 2) (by omega) (v5 := vB) (w5 := wB) (by rw [e2]; exact hgB)
          obtain ⟨gB, capB, hvB⟩ := own_slice hownB
          have HOB : Hid _ := hownB
          have HGB : Hid _ := hgB
          have d2' : wB.cell? ⟨Wb, 2, none⟩ = some vb := by
            rw [hrowB.cell (by omega)]
            rw [HVB.out, ← e2]
            rfl
          have dz : ∀ q, wB.frozen? ⟨Wb, q, none⟩ = false := fun q => hrowB.frozen q
          have hwlB := hrowB.lt
          subst hvB
          -- the list and the box, as they stand now
          have hnow : Fr M' wr (wB.setCell ⟨Wb, 2, none⟩ (.slice (some ⟨gB, 0, none⟩) ((C' 2).length + 1) capB)) := by
            have p1 := (HK.out.lm.below (below_alloc1 wr (.cells #[.slice lo (n + j) lcap] 90))).push (i := 1) (by omega) (us := [.slice lo (n + j) lcap]) HOA.out HGA.out
            have p2 := hlmB.push (i := 2) (by omega) (us := [.int .i64 mk]) (w5 := wB) (v5 := .slice (some ⟨gB, 0, none⟩) ((C' 2).length + 1) capB) (by rw [upd_other _ _ (by decide)]; exact HOB.out) (by rw [e2]; exact HGB.out)
            refine ((((Fr.refl M' wr).alloc _).then p1.2).alloc _).trans p2.2 (fun q hq => ?_)
            rcases hq with hq | hq
            · exact .inl hq
            · rw [Deep.nblk_alloc] at hq; exact .inr (by omega)
          have hxC : (wB.setCell ⟨Wb, 2, none⟩ (.slice (some ⟨gB, 0, none⟩) ((C' 2).length + 1) capB)).ownsRow 0 93 5 (.slice lo (n + j) lcap) (n + j) (List.replicate ((n + j) * 5) (.int .i64 mk)) := own_same HK.out.own (fun b hb => hnow.block b (HK.out.own.lt b hb).2 (HK.out.lb b hb).1)
          have hbxB : (wB.setCell ⟨Wb, 2, none⟩ (.slice (some ⟨gB, 0, none⟩) ((C' 2).length + 1) capB)).rowIs bj 93 5 (fun _ => .int .i64 mk) := HK.out.box.of_block (hnow.block bj HK.out.box.lt HK.out.bb.2.1)
          have hbW : bj ≠ Wb := rows_ne HK.out.box HK.out.lm.row (by decide)
          have x0 : wB.cell? ⟨bj, 0, none⟩ = some (.int .i64 mk) := (cell_same (Deep.blk_setCell_other _ _ _ _ hbW)).symm.trans (hbxB.cell (by omega))
          have x1 : wB.cell? ⟨bj, 1, none⟩ = some (.int .i64 mk) := (cell_same (Deep.blk_setCell_other _ _ _ _ hbW)).symm.trans (hbxB.cell (by omega))
          have x2 : wB.cell? ⟨bj, 2, none⟩ = some (.int .i64 mk) := (cell_same (Deep.blk_setCell_other _ _ _ _ hbW)).symm.trans (hbxB.cell (by omega))
          have x3 : wB.cell? ⟨bj, 3, none⟩ = some (.int .i64 mk) := (cell_same (Deep.blk_setCell_other _ _ _ _ hbW)).symm.trans (hbxB.cell (by omega))
          have x4 : wB.cell? ⟨bj, 4, none⟩ = some (.int .i64 mk) := (cell_same (Deep.blk_setCell_other _ _ _ _ hbW)).symm.trans (hbxB.cell (by omega))
          have hbjB : bj < wB.heap.size := by have := hbxB.lt; rw [Deep.nblk_setCell] at this; exact this
          clear hlmB hrowB hownB hgB hxB b1 b2 bz e2 hnow hbxB
          go_wp2_with (at_builtin; refine wpList_append_own3 _ rfl _ _ 90 rfl 0 93 i9 _ 5 40 Tryz.underlying90 hi9 hz90 hz91 hz92 rfl (by decide) _ _ _ rfl (hxC.alloc _) ⟨wB.heap.size, 0, none⟩ 1 1 [.int .i64 mk, .int .i64 mk, .int .i64 mk, .int .i64 mk, .int .i64 mk] rfl rfl ?f1 ?f2 ?f3 ?f4 ?f5 ?_)
          any_goals (first | exact rfl | exact cells5_at _ _ (by rw [Deep.nblk_setCell]) _ _ _ _ _ _ | (intro u hu; simp at hu; subst hu; rfl) | (unfold maxLen; omega) | omega)
          intro l' wC hownC hgC
          obtain ⟨M2, E2, hstep⟩ := HK.out.step (by omega) HOA.out HGA.out HOB.out HGB.out hownC hgC
          have HST : Hid (∃ M2 E2, KJ w wC Wb g n (j + 1) bj M E M2 E2 V _ C _ (last - 1) mk l') := ⟨M2, E2, hstep⟩
          clear hownC hgC hxC hstep x0 x1 x2 x3 x4 dz d2'
          go_wp2
          go_roundw
          case rel =>
            obtain ⟨M2, E2, hs⟩ := HST.out
            exact ⟨j + 1, M2, E2, _, _, by omega, by go_num, hs⟩
          case measure => simp [intOf]; omega
        · obtain rfl : j = 4 := by omega
          have HEN : Hid (∃ M' E' V' C', KJEnd w wr Wb g M E M' E' V V' C C' last) := ⟨M', E', V', C', hk.lm, hk.le, hk.dis, hk.mf, hk.ef, hk.fr, hk.c0, hk.cl⟩
          clear hk
          go_wp2
          go_end0
          exact ⟨rfl, HEN.out⟩

end Go.Proofs.YtdabcflpcklfiaaGreat

/- The law: a side (the program's kernel and the document's), and its ticks. -/
namespace Go.Proofs.YtdabcflpcklfiaaGreat
open Go.RowKit Cad

/-- Both kernels of a side, each in blocks of its own. -/
structure SP (w : World) (xb yb : Nat) (S : Sy) (m : Mc) (FK FR : Nat → Prop) : Prop where
  k : KG FK w xb S m
  r : RG FR w yb S m
  lk : LkInv S m
  dis : Dis FK FR
  loK : Lo FK w.heap.size
  loR : Lo FR w.heap.size

/-- A side has moved: nothing else has turned. -/
structure SPM (w w' : World) (FK FR FK' FR' : Nat → Prop) : Prop where
  fr : Fr (fun q => FK q ∨ FR q) w w'
  fk : ∀ q, FK' q → FK q ∨ w.heap.size ≤ q
  fy : ∀ q, FR' q → FR q ∨ w.heap.size ≤ q

theorem SP.syok {w : World} {xb yb : Nat} {S : Sy} {m : Mc} {FK FR : Nat → Prop} (h : SP w xb yb S m FK FR) : SyOk S := by
  obtain ⟨B, tb, tc, pb, pc, n, T, Z, k, jv, dv, g⟩ := h.r
  rw [g.sy]
  exact syok_of g.good g.prio

theorem SP.other {w w' : World} {xb yb : Nat} {S : Sy} {m : Mc} {FK FR G : Nat → Prop} (h : SP w xb yb S m FK FR) (hf : Fr G w w') (h1 : Dis FK G) (h2 : Dis FR G) : SP w' xb yb S m FK FR :=
  ⟨h.k.other hf h1, h.r.other hf h2, h.lk, h.dis, h.loK.mono hf.size, h.loR.mono hf.size⟩

theorem SP.below {w w' : World} {xb yb : Nat} {S : Sy} {m : Mc} {FK FR : Nat → Prop} (h : SP w xb yb S m FK FR) (hb : Below w.heap.size w w') : SP w' xb yb S m FK FR :=
  h.other (G := fun _ => False) (Fr.of_below _ hb) (fun _ _ g => g) (fun _ _ g => g)

theorem SPM.refl (w : World) (FK FR : Nat → Prop) : SPM w w FK FR FK FR := ⟨Fr.refl _ _, fun _ h => .inl h, fun _ h => .inl h⟩

theorem SPM.trans {a b c : World} {K0 R0 K1 R1 K2 R2 : Nat → Prop} (h : SPM a b K0 R0 K1 R1) (g : SPM b c K1 R1 K2 R2) : SPM a c K0 R0 K2 R2 := by
  have hs := h.fr.size
  refine ⟨h.fr.trans g.fr (fun q hq => ?_), fun q hq => ?_, fun q hq => ?_⟩
  · rcases hq with hq | hq
    · rcases h.fk q hq with e | e
      · exact .inl (.inl e)
      · exact .inr e
    · rcases h.fy q hq with e | e
      · exact .inl (.inr e)
      · exact .inr e
  · rcases g.fk q hq with e | e
    · exact h.fk q e
    · exact .inr (by omega)
  · rcases g.fy q hq with e | e
    · exact h.fy q e
    · exact .inr (by omega)

/-- The program's kernel moves. -/
theorem SP.kmove {w w' : World} {xb yb : Nat} {S : Sy} {m : Mc} {FK FR : Nat → Prop} (h : SP w xb yb S m FK FR) (hf : Fr FK w w') :
    RG FR w' yb S m ∧ Dis (Nx FK w.heap.size w'.heap.size) FR ∧ Lo (Nx FK w.heap.size w'.heap.size) w'.heap.size ∧ Lo FR w'.heap.size ∧ SPM w w' FK FR (Nx FK w.heap.size w'.heap.size) FR :=
  ⟨h.r.other hf h.dis.symm, h.dis.nx h.loR, h.loK.nx hf.size, h.loR.mono hf.size, ⟨hf.mono (fun q g => .inl g), fun q g => by
    rcases g with g | g
    · exact .inl g
    · exact .inr g.1, fun q g => .inl g⟩⟩

theorem tick_now (S : Sy) (m : Mc) : (tick S m).1.now = m.now + 1 := by
  rcases tick_cases S m with ⟨_, e⟩ | ⟨t, j, r, _, _, _, _, e⟩
  · rw [e]
  · rw [e]
    unfold tickAt
    simp only []
    split <;> rfl

set_option maxRecDepth 100000 in
set_option maxHeartbeats 4000000 in
theorem ticks_any {w : World} {sb xb yb : Nat} {S : Sy} {m : Mc} {FK FR : Nat → Prop} {nn : Int} (h : SP w xb yb S m FK FR) (hs0 : w.cell? ⟨sb, 0, none⟩ = some (.pointer (some ⟨xb, 0, none⟩))) (hs1 : w.cell? ⟨sb, 1, none⟩ = some (.pointer (some ⟨yb, 0, none⟩))) (hsn : ¬ (FK sb ∨ FR sb)) (hnow : m.now ≤ 900000000000000000) (har : m.arrd ≤ 1000000000000) :
    Calls Tryz.prog 47 #[.pointer (some ⟨sb, 0, none⟩), .int .i64 nn] w fun e w' => e = .returned (.bool true) ∧ ∃ m' FK' FR', SP w' xb yb S m' FK' FR' ∧ SPM w w' FK FR FK' FR' ∧ m'.now ≤ m.now + 300 ∧ m'.arrd = m.arrd := by
  have hsl : sb < w.heap.size := World.block_lt_of_cell? w ⟨sb, 0, none⟩ hs0
  have HS : Hid (SP w xb yb S m FK FR) := h
  have HN : Hid (¬ (FK sb ∨ FR sb)) := hsn
  have HSY : Hid (SyOk S) := h.syok
  clear h hsn
  go_enter Tryz.func47, Tryz.ntmps47
  go_wp2_with fail
  go_loopw [5] (fun iv wr => ∃ (i : Nat) (m' : Mc) (FK' FR' : Nat → Prop), i ≤ 300 ∧ iv = .int .i64 i ∧ SP wr xb yb S m' FK' FR' ∧ SPM w wr FK FR FK' FR' ∧ m'.now = m.now + i ∧ m'.arrd = m.arrd) (fun iv _ => 300 - (intOf iv).toNat)
  case atStart => exact ⟨0, m, FK, FR, by omega, rfl, HS.out, SPM.refl _ _ _, by omega, rfl⟩
  case round =>
    obtain ⟨i, m', FK', FR', hi, rfl, hsp, hmv, hnw, harr⟩ := hrel
    have c0 : wr.cell? ⟨sb, 0, none⟩ = some (.pointer (some ⟨xb, 0, none⟩)) := (hmv.fr.cell hsl HN.out).trans hs0
    have c1 : wr.cell? ⟨sb, 1, none⟩ = some (.pointer (some ⟨yb, 0, none⟩)) := (hmv.fr.cell hsl HN.out).trans hs1
    have hslr : sb < wr.heap.size := Nat.lt_of_lt_of_le hsl hmv.fr.size
    have HSP : Hid (SP wr xb yb S m' FK' FR') := hsp
    have HMV : Hid (SPM w wr FK FR FK' FR') := hmv
    have HNW : Hid (m'.now = m.now + i ∧ m'.arrd = m.arrd) := ⟨hnw, harr⟩
    have hsn' : ¬ FK' sb := fun g => by
      rcases hmv.fk sb g with e | e
      · exact HN.out (.inl e)
      · omega
    have HSN : Hid (¬ FK' sb) := hsn'
    have hm1 : m'.now < 1000000000000000000 := by omega
    have hm2 : m'.arrd ≤ 1000000000000 := by omega
    clear hsp hmv hnw harr hsn'
    by_cases hgo : i = 0 ∨ ((i : Int) < nn ∧ i < 300)
    · have hi3 : i < 300 := by omega
      have HT : Hid (∀ w1, KG (Nx FK' wr.heap.size w1.heap.size) w1 xb S (tick S m').1 → Fr FK' wr w1 → (w1.cell? ⟨sb, 1, none⟩ = some (.pointer (some ⟨yb, 0, none⟩)) ∧ sb < w1.heap.size) ∧ Calls Tryz.prog 75 #[.pointer (some ⟨yb, 0, none⟩)] w1 fun e w' => e = .returned (.tuple #[.int .i64 (tick S m').2.1, .bool (tick S m').2.2]) ∧ ∃ (m2 : Mc) (K2 R2 : Nat → Prop), SP w' xb yb S m2 K2 R2 ∧ SPM w w' FK FR K2 R2 ∧ m2.now = m.now + (i + 1 : Nat) ∧ m2.arrd = m.arrd) := by
        intro w1 hk hf
        obtain ⟨q1, q2, q3, q4, q5⟩ := HSP.out.kmove hf
        refine ⟨⟨(hf.cell hslr HSN.out).trans c1, Nat.lt_of_lt_of_le hslr hf.size⟩, (rg_tick q1 HSP.out.k.ok HSP.out.lk hm1 hm2).mono ?_⟩
        rintro e w' ⟨he, h1, h2⟩
        refine ⟨he, (tick S m').1, _, FR', ⟨hk.other h2 q2, h1, lk_tick HSY.out HSP.out.k.ok HSP.out.lk, q2, q3.mono h2.size, q4.mono h2.size⟩, HMV.out.trans (q5.trans ⟨h2.mono (fun q g => .inr g), fun q g => .inl g, fun q g => .inl g⟩), ?_, ?_⟩
        · rw [tick_now, HNW.out.1]
          omega
        · rw [tick_arrd, HNW.out.2]
      have HK : Hid (Calls Tryz.prog 28 #[.pointer (some ⟨xb, 0, none⟩)] wr fun e w' => e = .returned (.tuple #[.int .i64 (tick S m').2.1, .bool (tick S m').2.2]) ∧ KG (Nx FK' wr.heap.size w'.heap.size) w' xb S (tick S m').1 ∧ Fr FK' wr w') := kg_tick HSP.out.k hm1
      generalize (tick S m').2.1 = ta at *
      generalize (tick S m').2.2 = tb at *
      have e1 : (ta != ta) = false := by simp
      have e2 : (tb != tb) = false := by simp
      rcases hgo with g0 | ⟨g1, g2⟩
      · have b0 : ((i : Int) == 0) = true := by rw [beq_iff_eq]; omega
        clear g0 hs0 hs1
        go_wp2_with fail
        refine Calls.mono HK.out ?_
        rintro e w1 ⟨rfl, hk, hf⟩
        obtain ⟨⟨c1', hl1⟩, hcall⟩ := HT.out w1 hk hf
        have HCL : Hid _ := hcall
        clear hk hf hcall
        go_wp2_with fail
        refine Calls.mono HCL.out ?_
        rintro e w2 ⟨rfl, hend⟩
        have HEND : Hid _ := hend
        clear hend
        go_wp2
        go_roundw
        case rel =>
          obtain ⟨m2, K2, R2, h1, h2, h3, h4⟩ := HEND.out
          exact ⟨i + 1, m2, K2, R2, by omega, by go_num, h1, h2, h3, h4⟩
        case measure => simp [intOf]; omega
      · by_cases g0 : i = 0
        · have b0 : ((i : Int) == 0) = true := by rw [beq_iff_eq]; omega
          clear g0 hs0 hs1
          go_wp2_with fail
          refine Calls.mono HK.out ?_
          rintro e w1 ⟨rfl, hk, hf⟩
          obtain ⟨⟨c1', hl1⟩, hcall⟩ := HT.out w1 hk hf
          have HCL : Hid _ := hcall
          clear hk hf hcall
          go_wp2_with fail
          refine Calls.mono HCL.out ?_
          rintro e w2 ⟨rfl, hend⟩
          have HEND : Hid _ := hend
          clear hend
          go_wp2
          go_roundw
          case rel =>
            obtain ⟨m2, K2, R2, h1, h2, h3, h4⟩ := HEND.out
            exact ⟨i + 1, m2, K2, R2, by omega, by go_num, h1, h2, h3, h4⟩
          case measure => simp [intOf]; omega
        · have b0 : ((i : Int) == 0) = false := by rw [beq_eq_false_iff_ne]; omega
          have b1 : decide ((i : Int) < nn) = true := decide_eq_true g1
          have b2 : decide (i < 300) = true := decide_eq_true g2
          clear g0 hs0 hs1
          go_wp2_with fail
          refine Calls.mono HK.out ?_
          rintro e w1 ⟨rfl, hk, hf⟩
          obtain ⟨⟨c1', hl1⟩, hcall⟩ := HT.out w1 hk hf
          have HCL : Hid _ := hcall
          clear hk hf hcall
          go_wp2_with fail
          refine Calls.mono HCL.out ?_
          rintro e w2 ⟨rfl, hend⟩
          have HEND : Hid _ := hend
          clear hend
          go_wp2
          go_roundw
          case rel =>
            obtain ⟨m2, K2, R2, h1, h2, h3, h4⟩ := HEND.out
            exact ⟨i + 1, m2, K2, R2, by omega, by go_num, h1, h2, h3, h4⟩
          case measure => simp [intOf]; omega
    · have HEND : Hid (∃ m' FK' FR', SP wr xb yb S m' FK' FR' ∧ SPM w wr FK FR FK' FR' ∧ m'.now ≤ m.now + 300 ∧ m'.arrd = m.arrd) := ⟨m', FK', FR', HSP.out, HMV.out, by have := HNW.out.1; omega, HNW.out.2⟩
      have b0 : ((i : Int) == 0) = false := by rw [beq_eq_false_iff_ne]; omega
      by_cases g1 : (i : Int) < nn
      · obtain rfl : i = 300 := by omega
        have b1 : decide ((300 : Int) < nn) = true := decide_eq_true (by omega)
        clear hgo hs0 hs1 b0
        go_wp2
        go_ret
        exact ⟨rfl, HEND.out⟩
      · have b1 : decide ((i : Int) < nn) = false := decide_eq_false g1
        clear hgo hs0 hs1
        go_wp2
        go_ret
        exact ⟨rfl, HEND.out⟩

end Go.Proofs.YtdabcflpcklfiaaGreat
