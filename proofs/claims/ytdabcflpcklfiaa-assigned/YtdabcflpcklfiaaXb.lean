import Derived.Test.YtdabcflpcklfiaaXa
namespace Go.Proofs.Ytdabcflpcklfiaa
open Go.RowKit

set_option maxRecDepth 100000 in
set_option maxHeartbeats 3000000 in
theorem analyzes_some (b off n cap Wb B0 : Nat) (ao : Option Addr) (pn pc : Nat) (T : TD) (Z : Nat → Int) (w : World) (h1 : 1 ≤ n) (hn8 : n * 48 ≤ 140737488351232) (hL : ∀ i, i < n → T.L i * 16 ≤ 140737488351232) (hp8 : pn * 8 ≤ 140737488351232)
    (hb : b < B0) (hB0 : B0 ≤ w.heap.size) (hWb : B0 ≤ Wb) (hW : w.rowIs Wb 31 9 (wf9 (.slice none 0 0) (.slice none 0 0) fnil)) (hT : TasksAt w b off n T) (hTB : ∀ i, i < n → 1 ≤ T.L i → ∀ a, T.A i = some a → a.block < B0)
    (hZ : 1 ≤ pn → ∃ pb po, ao = some ⟨pb, po, none⟩ ∧ pb < B0 ∧ IntsAt w pb po pn Z) :
    Calls Try.prog 12 #[.pointer (some ⟨Wb, 0, none⟩), .slice (some ⟨b, off, none⟩) n cap, .slice ao pn pc] w fun e w' => e = .returned (.bool true) ∧ Below B0 w w' := by
  obtain ⟨E, A, m, hout, hm8⟩ := outc_ex T Z n pn
  have HO : Hid (Outc T Z n pn E A m) := hout
  have HT : Hid (TasksAt w b off n T) := hT
  have HTB : Hid (∀ i, i < n → 1 ≤ T.L i → ∀ a, T.A i = some a → a.block < B0) := hTB
  have HL : Hid (∀ i, i < n → T.L i * 16 ≤ 140737488351232) := hL
  have HW : Hid (w.rowIs Wb 31 9 (wf9 (.slice none 0 0) (.slice none 0 0) fnil)) := hW
  have HZ : Hid (1 ≤ pn → ∃ pb po, ao = some ⟨pb, po, none⟩ ∧ pb < B0 ∧ IntsAt w pb po pn Z) := hZ
  clear hT hTB hL hW hZ hout
  have hbw : b < w.heap.size := by omega
  go_enter Try.func12, Try.ntmps12
  go_wp2_with fail
  refine (lent_some b off n cap T _ h1 hn8 HL.out hbw HT.out).mono ?_
  rintro e w1 ⟨S, v, rfl, hlent⟩
  have HLE : Hid (LentInv w.heap.size n n T S v w w1) := hlent
  obtain ⟨ga, acap, hv⟩ : ∃ ga acap, v = .slice (some ⟨ga, 0, none⟩) n acap := by
    obtain ⟨q, rfl⟩ : ∃ q, n = q + 1 := ⟨n - 1, by omega⟩
    exact own_slice hlent.own
  subst hv
  have hlt1 : w.heap.size < w1.heap.size := hlent.lrow.lt
  have HTL : Hid (TasksAt w1 w.heap.size 0 n (T.lent S)) := lent_at hlent HL.out
  have HB1 : Hid (Below w.heap.size w w1) := hlent.below
  clear hlent
  have HZ1 : Hid (1 ≤ pn → ∃ pb po, ao = some ⟨pb, po, none⟩ ∧ pb < w1.heap.size ∧ IntsAt w1 pb po pn Z) := fun h => by
    obtain ⟨pb, po, e, hpb, hz⟩ := HZ.out h
    exact ⟨pb, po, e, by omega, IntsAt.below hz (by omega) HB1.out⟩
  go_wp2_with fail
  refine (lentInts_any ao pn pc Z _ hp8 HZ1.out).mono ?_
  rintro e w2 ⟨rfl, hq2, hb2⟩
  have HQ2 : Hid (w2.rowIs w1.heap.size 3 (pn + 1) (lenf Z pn)) := hq2
  have HB2 : Hid (Below w1.heap.size w1 w2) := hb2
  have hs2 : w1.heap.size < w2.heap.size := hq2.lt
  clear hq2 hb2
  have HC3 : Hid (Calls Try.prog 16 #[.slice (some ⟨w.heap.size, 0, none⟩) n (n + 1), .slice (some ⟨w1.heap.size, 0, none⟩) pn (pn + 1)] w2.drew fun e w' => ∃ xv X, e = .returned (.tuple #[xv, .int .i64 E, .int .i64 A]) ∧ OutX w2.heap.size w' m xv X ∧ (∀ i, i < m → CodeB T Z n i (X i)) ∧ Below w2.heap.size w2 w') := by
    unfold Hid
    refine (code_all w.heap.size 0 n (n + 1) (some ⟨w1.heap.size, 0, none⟩) pn (pn + 1) (T.lent S) Z E A m w2.drew (by omega) (outc_lent HO.out) (by show _ < w2.heap.size; omega) (TasksAt.below HTL.out hlt1 HB2.out.drew) (fun _ => ⟨w1.heap.size, 0, rfl, hs2, fun i hi => by
      show w2.cell? _ = _
      rw [Nat.zero_add, World.rowIs.cell HQ2.out (by omega)]; unfold lenf; rw [if_pos hi]⟩)).mono ?_
    rintro e w' ⟨xv, X, he, hx, hX, hb⟩
    exact ⟨xv, X, he, hx, hX, ⟨hb.os, hb.tape, hb.output, hb.size, hb.block⟩⟩
  go_wp2_with fail
  go_region_with (go_at_call 16; refine (HC3.out).mono ?_; rintro e w3 ⟨xv, X, rfl, hx, hX, hb3⟩)
  all_goals
    obtain ⟨xo, xc, hxv⟩ := hx.shape
    subst hxv
    have HX : Hid (OutX w2.heap.size w3 m (.slice xo m xc) X) := hx
    have HCX : Hid (∀ i, i < m → CodeB T Z n i (X i)) := hX
    have hs3 : w2.heap.size ≤ w3.heap.size := hb3.size
    have HB23 : Hid (Below w2.heap.size w2 w3) := hb3
    have HB13 : Hid (Below w1.heap.size w1 w3) := HB2.out.trans (hb3.mono (by omega))
    have HB03 : Hid (Below w.heap.size w w3) := HB1.out.trans (HB13.out.mono (by omega))
    clear hx hX hb3 HC3
    have HZ3 : Hid (1 ≤ pn → ∃ pb po, ao = some ⟨pb, po, none⟩ ∧ pb < w3.heap.size ∧ IntsAt w3 pb po pn Z) := fun h => by
      obtain ⟨pb, po, e, hpb, hz⟩ := HZ.out h
      exact ⟨pb, po, e, by omega, IntsAt.below hz (by omega) HB03.out⟩
    go_wp2_with fail
    refine (ref_allA b off n cap ao pn pc T Z E A m _ (by omega) HO.out (by omega) (TasksAt.below HT.out hbw HB03.out) HZ3.out).mono ?_
    rintro e w4 ⟨yv, Y, rfl, ⟨yo, yc, rfl, hyi⟩, hY, hb4⟩
    have hs4 : w3.heap.size ≤ w4.heap.size := hb4.size
    have HB34 : Hid (Below w3.heap.size w3 w4) := hb4
    have HYI : Hid (1 ≤ m → ∃ b off, yo = some ⟨b, off, none⟩ ∧ IntsAt w4 b off m X) := fun h => by
      obtain ⟨yb, yf, e, hz⟩ := hyi h
      exact ⟨yb, yf, e, fun i hi => by rw [outc_same HO.out HCX.out hY i hi]; exact hz i hi⟩
    have HXI : Hid (1 ≤ m → ∃ b off, xo = some ⟨b, off, none⟩ ∧ IntsAt w4 b off m X) := HX.out.ints hb4
    clear hyi hY hb4
    go_wp2_with fail
    refine (sameInts_any xo yo m _ yc X _ (by omega) HXI.out HYI.out).mono ?_
    rintro e w5 ⟨rfl, k5, hw5⟩
    have HB45 : Hid (Below w4.heap.size w4 w5) := by rw [hw5]; exact below_drewN (Below.refl _ _) _
    clear hw5
    have hs5 : w4.heap.size ≤ w5.heap.size := HB45.out.size
    have HB35 : Hid (Below w3.heap.size w3 w5) := HB34.out.trans (HB45.out.mono hs4)
    have HB15 : Hid (Below w1.heap.size w1 w5) := HB13.out.trans (HB35.out.mono (by omega))
    have HB05 : Hid (Below w.heap.size w w5) := HB1.out.trans (HB15.out.mono (by omega))
    clear HB34 HB45 HYI HXI
    obtain ⟨hf, hri⟩ := RI_of_lent hB0 hn8 HL.out hWb HW.out HLE.out HB15.out
    have HF : Hid (RetFix B0 n w.heap.size Wb w5.heap.size 0 0 T S (.slice (some ⟨ga, 0, none⟩) n acap)) := hf
    have HR : Hid (RI B0 n 0 w.heap.size Wb (w.heap.size + 1) w5.heap.size 0 0 T S (.slice (some ⟨ga, 0, none⟩) n acap) (.slice none 0 0) (.slice none 0 0) fnil (lf T S n) (Gk T 0 0) [] [] w5 w5) := hri
    clear hf hri
    have hWl : Wb < w.heap.size := HW.out.lt
    have HSL : Hid (∀ j, j < n → S j < w1.heap.size) := fun j hj => (HLE.out.srow j hj).lt
    go_wp2_with fail
    refine (returned_some b off n cap B0 w.heap.size Wb _ w5.heap.size 0 0 ga acap T S _ _ fnil [] [] _ h1 hb (by omega) (TasksAt.below HT.out hbw HB05.out) HTB.out HF.out HR.out).mono ?_
    rintro e w6 ⟨rfl, vs', vt', hri6⟩
    have HW6 : Hid (w6.rowIs Wb 31 9 (wf9 vs' vt' fnil)) := hri6.wrow
    have HFR6 : Hid (∀ g, w1.heap.size ≤ g → g < w5.heap.size → w6.heap[g]? = w5.heap[g]?) := fun g h1 h2 => hri6.frame g h2 (by omega) (by omega) (fun j hj => by have := HSL.out j hj; omega)
    have HB06 : Hid (Below B0 w w6) := (HB05.out.mono hB0).trans hri6.below
    have hs6 : w5.heap.size ≤ w6.heap.size := hri6.below.size
    clear hri6
    have HQ6 : Hid (w6.rowIs w1.heap.size 3 (pn + 1) (lenf Z pn)) := (HQ2.out.of_block (((HB35.out.block _ (by omega)).trans (HB23.out.block _ (by omega))))).of_block (HFR6.out _ (Nat.le_refl _) (by omega))
    have HZ6 : Hid (1 ≤ pn → ∃ pb po, ao = some ⟨pb, po, none⟩ ∧ IntsAt w6 pb po pn Z) := fun h => by
      obtain ⟨pb, po, e, hpb, hz⟩ := HZ.out h
      exact ⟨pb, po, e, fun i hi => (HB06.out.cell (by exact hpb)).trans (hz i hi)⟩
    go_wp2_with fail
    refine (retInts_any Wb B0 w1.heap.size pn pc ao Z (wf9 vs' vt' fnil) _ hp8 hWb (by omega) (by omega) rfl HW6.out HQ6.out HZ6.out).mono ?_
    rintro e w7 ⟨rfl, hb7, hfr7, vu, hW7⟩
    have HB07 : Hid (Below B0 w w7) := HB06.out.trans hb7
    have hs7 : w6.heap.size ≤ w7.heap.size := hb7.size
    have HW7 : Hid (w7.rowIs Wb 31 9 (fun q => if q = 5 then vu else wf9 vs' vt' fnil q)) := hW7
    have HK7 : Hid (KeepL w7 B0 m (.slice xo m xc)) := HX.out.keep (by omega) (fun g h1 h2 => (hfr7 g (by omega) (by omega) (by omega)).trans ((HFR6.out g (by omega) (by omega)).trans (HB35.out.block g h2)))
    clear hb7 hfr7 hW7
    go_wp2_with fail
    refine (keep_any Wb B0 m 0 (.slice xo m xc) _ _ (by omega) (by omega) (by omega) hWb (by omega) rfl rfl rfl HW7.out HK7.out).mono ?_
    rintro e w8 ⟨rfl, hb8⟩
    have HB08 : Hid (Below B0 w w8) := HB07.out.trans hb8
    clear hb8
    have hee : (E == E) = true := by simp
    have haa : (A == A) = true := by simp
    go_wp2
    go_ret
    exact ⟨rfl, HB08.out⟩
end Go.Proofs.Ytdabcflpcklfiaa
