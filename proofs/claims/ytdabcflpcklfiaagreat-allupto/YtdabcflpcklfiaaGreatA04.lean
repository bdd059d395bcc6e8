import Derived.Test.YtdabcflpcklfiaaGreatA02
import Derived.Deep.Cut
/- A job is done: the walk. -/
namespace Go.Proofs.YtdabcflpcklfiaaGreat
open Go.RowKit Cad

set_option maxRecDepth 100000 in
set_option maxHeartbeats 4000000 in
theorem finish_any (mb tb jm jb n t d N : Nat) (now : Int) (f g : Nat → Value) (j : Jb) (v kv : Value) (M : Nat → Nat → Option Nat) (l : List Rc) (w : World) (hn : n ≤ 8) (ht : t < n) (hd : (d : Int) ≤ 2000000000000000000) (hl : l.length ≤ 40)
    (hm : w.rowIs mb 142 22 f) (f0 : f 0 = .int .i64 now) (f3 : f 3 = .slice (some ⟨tb, 0, none⟩) n n) (f20 : f 20 = .map (some jm)) (f21 : f 21 = kv)
    (htb : w.rowIs tb 145 (n * 7) g) (g5 : g (t * 7 + 5) = .int .i64 d) (hj : w.rowIs jb 160 7 (jcell t j (-1) v)) (hjm : JMap w jm N M) (hk : w.ownsRow 0 158 6 kv l.length (keptC l)) :
    Calls Tryz.prog 86 #[.pointer (some ⟨mb, 0, none⟩), .pointer (some ⟨jb, 0, none⟩)] w fun e w' => ∃ kv', e = .returned (.tuple #[]) ∧ FinInv w w' mb tb jm jb n t d N now f g j v kv kv' M (keep l ⟨t, j.arr, j.rel, now, j.left, j.ord⟩) := by
  obtain ⟨i0, hi0, hz0, hz1, hz2⟩ := info_parts Tryz.info158
  have c0 : w.cell? ⟨mb, 0, none⟩ = some (.int .i64 now) := by rw [hm.cell (by omega), f0]
  have c3 : w.cell? ⟨mb, 3, none⟩ = some (.slice (some ⟨tb, 0, none⟩) n n) := by rw [hm.cell (by omega), f3]
  have c20 : w.cell? ⟨mb, 20, none⟩ = some (.map (some jm)) := by rw [hm.cell (by omega), f20]
  have c21 : w.cell? ⟨mb, 21, none⟩ = some kv := by rw [hm.cell (by omega), f21]
  have t5 : w.cell? ⟨tb, t * 7 + 5, none⟩ = some (.int .i64 d) := by rw [htb.cell (by omega), g5]
  have j0 : w.cell? ⟨jb, 0, none⟩ = some (.int .i64 t) := by rw [hj.cell (by omega)]; rfl
  have hmt : mb ≠ tb := row_ne hm htb (by decide)
  have hmj : mb ≠ jb := row_ne hm hj (by decide)
  have htj : tb ≠ jb := row_ne htb hj (by decide)
  have hjmm : jm ≠ mb := hjm.ne hm
  have hjmt : jm ≠ tb := hjm.ne htb
  have hjmj : jm ≠ jb := hjm.ne hj
  have hkm := own_neK hk hm (by decide)
  have hkt := own_neK hk htb (by decide)
  have hkj := own_neK hk hj (by decide)
  have hkjm := own_ne_map hk hjm
  have HM : Hid (w.rowIs mb 142 22 f) := hm
  have HT : Hid (w.rowIs tb 145 (n * 7) g) := htb
  have HJ : Hid (w.rowIs jb 160 7 (jcell t j (-1) v)) := hj
  have HJM : Hid (JMap w jm N M) := hjm
  have HK : Hid (w.ownsRow 0 158 6 kv l.length (keptC l)) := hk
  have zz : w.frozen? ⟨tb, t * 7 + 5, none⟩ = false := htb.frozen _
  clear hm htb hj hjm hk
  go_enter Tryz.func86, Tryz.ntmps86
  go_wp2_with fail
  go_region
  go_upto_region 1 with fail
  go_cut [4] from 5 (fun s4 wc => s4 = .pointer (some ⟨tb, t * 7, none⟩) ∧ JMap wc jm N (mput M t d none) ∧ Fr (fun i => i = jm) w wc)
  case first =>
    go_region_law (refine step_jdel rfl (.tmp 19) (.tmp 30) rfl jm N M t d (by omega) (by omega) (by simp [Act.eval, Act.put]) (by simp [Act.eval, Act.put, keyV]) (HJM.out.of_block rfl) ?_; intro w1 hjm1 hfr1)
    all_goals
      go_wp2_with fail
      go_meet
      case rel => exact ⟨rfl, hjm1, ((Fr.refl _ w).drew.drew).then hfr1⟩
  case rest =>
    obtain ⟨rfl, hjm1, hfr1⟩ := hcut
    have hm1 := hfr1.row HM.out hjmm.symm
    have ht1 := hfr1.row HT.out hjmt.symm
    have hj1 := hfr1.row HJ.out hjmj.symm
    have hk1 : wc.ownsRow 0 158 6 kv l.length (keptC l) := ownsRow_of_block HK.out (fun b hb => hfr1.block b (HK.out.lt b hb).2 (fun e => hkjm (by rw [hb, e])))
    obtain ⟨ao, cap, rfl⟩ := own_shapeK hk1
    have W1 : Hid (FinInv w ((wc.setCell ⟨tb, t * 7 + 5, none⟩ (.int .i64 ((d : Int) + 1))).setCell ⟨jb, 3, none⟩ (.int .i64 now)) mb tb jm jb n t d N now f g j v (.slice ao l.length cap) (.slice ao l.length cap) M l) := by
      refine ⟨?_, ?_, ?_, ?_, ?_, .inl rfl, ?_⟩
      · exact ((hm1.setOther (by simpa using hmt) _).setOther (by simpa using hmj) _).congr (fun q _ => by
          by_cases e : q = 21
          · rw [if_pos e, e, f21]
          · rw [if_neg e])
      · exact (ht1.set _ _).setOther (by simpa using htj) _
      · refine ((hj1.setOther (by simpa using htj.symm) _).set 3 _).congr (fun q hq => ?_)
        unfold jcell
        match q, hq with
        | 0, _ => rfl
        | 1, _ => rfl
        | 2, _ => rfl
        | 3, _ => rfl
        | 4, _ => rfl
        | 5, _ => rfl
        | 6, _ => rfl
      · exact hjm1.of_block ((Deep.blk_setCell_other _ _ _ _ (by simpa using hjmj)).trans (Deep.blk_setCell_other _ _ _ _ (by simpa using hjmt)))
      · exact ownsRow_of_block hk1 (fun b hb => (Deep.blk_setCell_other _ _ _ _ (fun e => hkj (by rw [hb, e]))).trans (Deep.blk_setCell_other _ _ _ _ (fun e => hkt (by rw [hb, e]))))
      · exact ((hfr1.mono (fun i hi => .inr (.inr (.inl hi)))).setCell (.inl (.inr (.inl rfl))) _).setCell (.inl (.inr (.inr (.inr (.inl rfl))))) _
    have t5' : wc.cell? ⟨tb, t * 7 + 5, none⟩ = some (.int .i64 d) := by rw [ht1.cell (by omega), g5]
    have z5' : wc.frozen? ⟨tb, t * 7 + 5, none⟩ = false := ht1.frozen _
    have z3' : wc.frozen? ⟨jb, 3, none⟩ = false := hj1.frozen _
    have j3' : wc.cell? ⟨jb, 3, none⟩ = some (.int .i64 (-1)) := by rw [hj1.cell (by omega)]; rfl
    have c0' : wc.cell? ⟨mb, 0, none⟩ = some (.int .i64 now) := by rw [hm1.cell (by omega), f0]
    have c21' : wc.cell? ⟨mb, 21, none⟩ = some (.slice ao l.length cap) := by rw [hm1.cell (by omega), f21]
    clear c0 c3 c20 c21 t5 j0 zz hjm1 hfr1 hm1 ht1 hj1 hk1
    go_upto_if 52 with fail
    go_cut [4] from 5 (fun s4 wc => s4 = .pointer (some ⟨tb, t * 7, none⟩) ∧ ∃ kv1, FinInv w wc mb tb jm jb n t d N now f g j v (.slice ao l.length cap) kv1 M (if l.length = 40 then l.tail else l))
    case first =>
      have c21w : ((wc.setCell ⟨tb, t * 7 + 5, none⟩ (.int .i64 ((d : Int) + 1))).setCell ⟨jb, 3, none⟩ (.int .i64 now)).cell? ⟨mb, 21, none⟩ = some (.slice ao l.length cap) := by rw [W1.out.mrow.cell (by omega), if_pos rfl]
      have z21w := W1.out.mrow.frozen 21
      clear t5' z5' z3' j3' c0' c21'
      generalize ((wc.setCell ⟨tb, t * 7 + 5, none⟩ (.int .i64 ((d : Int) + 1))).setCell ⟨jb, 3, none⟩ (.int .i64 now)) = W at *
      by_cases h40 : l.length = 40
      · have bt : ((l.length : Int) == 40) = true := by rw [h40]; rfl
        have H40 : Hid (l.length = 40) := h40
        have HCALL : Hid (Calls Tryz.prog 117 #[.slice ao l.length cap, .int .i64 0, .int .i64 1] W fun e w' => ∃ a1 n1 p1, e = .returned (.slice a1 n1 p1) ∧ FinInv w (w'.setCell ⟨mb, 21, none⟩ (.slice a1 n1 p1)) mb tb jm jb n t d N now f g j v (.slice ao l.length cap) (.slice a1 n1 p1) M (if l.length = 40 then l.tail else l) ∧ w'.cell? ⟨mb, 21, none⟩ = some (.slice ao l.length cap) ∧ w'.frozen? ⟨mb, 21, none⟩ = false) := by
          unfold Hid
          have hk := W1.out.kept
          have hkm := own_neK hk W1.out.mrow (by decide)
          refine (del_any (.slice ao l.length cap) 39 (keptC l) W (by omega) (by omega) (keptC_one l) (by rw [h40] at hk ⊢; exact hk)).mono ?_
          rintro e w3 ⟨kv', rfl, hbk, hown3, hfr3⟩
          rw [keptC_tail (by omega)] at hown3
          have m3 := hfr3.row W1.out.mrow hkm
          obtain ⟨a1, p1, rfl⟩ := own_shapeK hown3
          refine ⟨a1, 39, p1, rfl, ?_, by rw [m3.cell (by omega), if_pos rfl], m3.frozen 21⟩
          rw [if_pos h40]
          exact W1.out.store hfr3 (by rw [List.length_tail, h40]; exact hown3) (.inl hbk)
        clear h40
        go_wp2_with fail
        refine (HCALL.out).mono ?_
        rintro e w3 ⟨a1, n1, p1, rfl, hinv3, q21, z21⟩
        have HI3 : Hid (FinInv w (w3.setCell ⟨mb, 21, none⟩ (.slice a1 n1 p1)) mb tb jm jb n t d N now f g j v (.slice ao l.length cap) (.slice a1 n1 p1) M (if l.length = 40 then l.tail else l)) := hinv3
        clear hinv3 HCALL
        go_wp2_with fail
        go_meet
        case rel => exact ⟨rfl, _, HI3.out⟩
      · have bt : ((l.length : Int) == 40) = false := by simp; omega
        have HI3 : Hid (FinInv w W mb tb jm jb n t d N now f g j v (.slice ao l.length cap) (.slice ao l.length cap) M (if l.length = 40 then l.tail else l)) := by
          unfold Hid
          rw [if_neg h40]
          exact W1.out
        clear h40
        go_wp2_with fail
        go_meet
        case rel => exact ⟨rfl, _, HI3.out⟩
    case rest =>
      obtain ⟨rfl, kv1, hinv⟩ := hcut
      clear W1 t5' z5' z3' j3' c0' c21'
      obtain ⟨l1, hl1⟩ : ∃ l1, l1 = (if l.length = 40 then l.tail else l) := ⟨_, rfl⟩
      have hl2 : l1.length ≤ 40 := by
        rw [hl1]
        split
        · rw [List.length_tail]; omega
        · exact hl
      have HL1 : Hid (keep l ⟨t, j.arr, j.rel, now, j.left, j.ord⟩ = l1 ++ [⟨t, j.arr, j.rel, now, j.left, j.ord⟩]) := by unfold Hid keep; rw [← hl1]
      rw [← hl1] at hinv
      clear hl1
      have c21 : wc.cell? ⟨mb, 21, none⟩ = some kv1 := by rw [hinv.mrow.cell (by omega), if_pos rfl]
      have z21 := hinv.mrow.frozen 21
      have j0 : wc.cell? ⟨jb, 0, none⟩ = some (.int .i64 t) := by rw [hinv.jrow.cell (by omega)]; rfl
      have j1 : wc.cell? ⟨jb, 1, none⟩ = some (.int .i64 j.arr) := by rw [hinv.jrow.cell (by omega)]; rfl
      have j2 : wc.cell? ⟨jb, 2, none⟩ = some (.int .i64 j.rel) := by rw [hinv.jrow.cell (by omega)]; rfl
      have j3 : wc.cell? ⟨jb, 3, none⟩ = some (.int .i64 now) := by rw [hinv.jrow.cell (by omega)]; rfl
      have j4 : wc.cell? ⟨jb, 4, none⟩ = some (.int .i64 j.left) := by rw [hinv.jrow.cell (by omega)]; rfl
      have j5 : wc.cell? ⟨jb, 5, none⟩ = some (.int .i64 j.ord) := by rw [hinv.jrow.cell (by omega)]; rfl
      have hjl := hinv.jrow.lt
      have hml := hinv.mrow.lt
      have HI : Hid (FinInv w wc mb tb jm jb n t d N now f g j v (.slice ao l.length cap) kv1 M l1) := hinv
      have HK1 : Hid ((wc.drew.alloc (.cells #[.int .i64 t, .int .i64 j.arr, .int .i64 j.rel, .int .i64 now, .int .i64 j.left, .int .i64 j.ord] 158)).ownsRow 0 158 6 kv1 l1.length (keptC l1)) := World.ownsRow.alloc (w := wc.drew) hinv.kept _
      have HNR := new_rec wc.drew (.int .i64 t) (.int .i64 j.arr) (.int .i64 j.rel) (.int .i64 now) (.int .i64 j.left) (.int .i64 j.ord)
      clear hinv
      go_wp2_with fail
      go_region_law (refine step_append_own rfl (.tmp 65) (.tmp 70) 140 rfl 158 i0 _ 6 48 Tryz.underlying140 hi0 hz0 hz1 hz2 rfl (by decide) kv1 l1.length (keptC l1) (by simp [Act.eval]) HK1.out ⟨wc.heap.size, 0, none⟩ 1 1 [.int .i64 t, .int .i64 j.arr, .int .i64 j.rel, .int .i64 now, .int .i64 j.left, .int .i64 j.ord] (by simp [Act.eval]) rfl HNR (by simp [Value.oneCell']) (by unfold maxLen; omega) (by omega) ?_; intro kv2 w2 hown2 hg2 hb2; have hfin := HI.out.append (r := ⟨t, j.arr, j.rel, now, j.left, j.ord⟩) hown2 hg2 hb2; obtain ⟨a2, cp2, rfl⟩ := own_shapeK hown2; obtain ⟨hfin, q21, zq21⟩ := hfin; clear hown2 hg2 hb2)
      all_goals
        have HF : Hid (FinInv w (w2.setCell ⟨mb, 21, none⟩ (.slice a2 (l1.length + 1) cp2)) mb tb jm jb n t d N now f g j v (.slice ao l.length cap) (.slice a2 (l1.length + 1) cp2) M (l1 ++ [⟨t, j.arr, j.rel, now, j.left, j.ord⟩])) := hfin
        clear hfin
        go_wp2
        go_end0
        exact ⟨.slice a2 (l1.length + 1) cp2, rfl, by rw [HL1.out]; exact HF.out⟩
end Go.Proofs.YtdabcflpcklfiaaGreat
