import Derived.Test.YtdabcflpcklfiaaXb
namespace Go.Proofs.Ytdabcflpcklfiaa
open Go.RowKit

theorem outc_zero (T : TD) (Z : Nat → Int) (pn : Nat) : Outc T Z 0 pn 1 0 0 := .inl ⟨rfl, by unfold chkR; rw [if_neg (by omega)], by decide⟩

set_option maxRecDepth 100000 in
set_option maxHeartbeats 3000000 in
theorem analyzes_none (so : Option Addr) (cap Wb B0 : Nat) (ao : Option Addr) (pn pc : Nat) (T : TD) (Z : Nat → Int) (w : World) (hp8 : pn * 8 ≤ 140737488351232)
    (hB0 : B0 ≤ w.heap.size) (hWb : B0 ≤ Wb) (hW : w.rowIs Wb 31 9 (wf9 (.slice none 0 0) (.slice none 0 0) fnil))
    (hZ : 1 ≤ pn → ∃ pb po, ao = some ⟨pb, po, none⟩ ∧ pb < B0 ∧ IntsAt w pb po pn Z) :
    Calls Try.prog 12 #[.pointer (some ⟨Wb, 0, none⟩), .slice so 0 cap, .slice ao pn pc] w fun e w' => e = .returned (.bool true) ∧ Below B0 w w' := by
  have HW : Hid (w.rowIs Wb 31 9 (wf9 (.slice none 0 0) (.slice none 0 0) fnil)) := hW
  have HZ : Hid (1 ≤ pn → ∃ pb po, ao = some ⟨pb, po, none⟩ ∧ pb < B0 ∧ IntsAt w pb po pn Z) := hZ
  clear hW hZ
  go_enter Try.func12, Try.ntmps12
  go_wp2_with fail
  refine (lent_none so cap T _).mono ?_
  rintro e w1 ⟨S, v, rfl, hlent⟩
  have HLE : Hid (LentInv w.heap.size 0 0 T S v w w1) := hlent
  have hlt1 : w.heap.size < w1.heap.size := hlent.lrow.lt
  have HB1 : Hid (Below w.heap.size w w1) := hlent.below
  clear hlent
  have HZ1 : Hid (1 ≤ pn → ∃ pb po, ao = some ⟨pb, po, none⟩ ∧ pb < w1.heap.size ∧ IntsAt w1 pb po pn Z) := fun h => by
    obtain ⟨pb, po, e, hpb, hz⟩ := HZ.out h
    exact ⟨pb, po, e, by omega, IntsAt.below hz (by omega) HB1.out⟩
  go_wp2_with fail
  refine (lentInts_any ao pn pc Z _ hp8 HZ1.out).mono ?_
  rintro e w2 ⟨rfl, hq2, hb2⟩
  have HQ2 : Hid (w2.rowIs w1.heap.size 3 (pn + 1) (lenf Z pn)) := hq2
  have HB2 : Hid (Below w1.heap.size w1 w2) := hb2
  have hs2 : w1.heap.size < w2.heap.size := hq2.lt
  clear hq2 hb2
  have HC3 : Hid (∀ c c2, Calls Try.prog 16 #[.slice (some ⟨w.heap.size, 0, none⟩) 0 c, .slice (some ⟨w1.heap.size, 0, none⟩) pn c2] w2.drew fun e w' => ∃ xv X, e = .returned (.tuple #[xv, .int .i64 1, .int .i64 0]) ∧ OutX w2.heap.size w' 0 xv X ∧ Below w2.heap.size w2 w') := by
    unfold Hid
    intro c c2
    refine (code_all w.heap.size 0 0 c (some ⟨w1.heap.size, 0, none⟩) pn c2 T Z 1 0 0 w2.drew (by omega) (outc_zero T Z pn) (by show _ < w2.heap.size; omega) (fun i hi => by omega) (fun _ => ⟨w1.heap.size, 0, rfl, hs2, fun i hi => by
      show w2.cell? _ = _
      rw [Nat.zero_add, World.rowIs.cell HQ2.out (by omega)]; unfold lenf; rw [if_pos hi]⟩)).mono ?_
    rintro e w' ⟨xv, X, he, hx, _, hb⟩
    exact ⟨xv, X, he, hx, ⟨hb.os, hb.tape, hb.output, hb.size, hb.block⟩⟩
  go_wp2_with fail
  go_region_with (go_at_call 16; refine (HC3.out _ _).mono ?_; rintro e w3 ⟨xv, X, rfl, hx, hb3⟩)
  all_goals
    obtain ⟨xo, xc, hxv⟩ := hx.shape
    subst hxv
    have HX : Hid (OutX w2.heap.size w3 0 (.slice xo 0 xc) X) := hx
    have hs3 : w2.heap.size ≤ w3.heap.size := hb3.size
    have HB23 : Hid (Below w2.heap.size w2 w3) := hb3
    have HB13 : Hid (Below w1.heap.size w1 w3) := HB2.out.trans (hb3.mono (by omega))
    clear hx hb3 HC3
    go_wp2_with fail
    refine (refana_none so cap _ _).mono ?_
    rintro e w4 ⟨rfl, hb4⟩
    have hs4 : w3.heap.size ≤ w4.heap.size := hb4.size
    have HB34 : Hid (Below w3.heap.size w3 w4) := hb4
    clear hb4
    go_wp2_with fail
    refine (sameInts_any xo none 0 _ 0 X _ (by omega) (fun h => by omega) (fun h => by omega)).mono ?_
    rintro e w5 ⟨rfl, k5, hw5⟩
    have HB45 : Hid (Below w4.heap.size w4 w5) := by rw [hw5]; exact below_drewN (Below.refl _ _) _
    clear hw5
    have hs5 : w4.heap.size ≤ w5.heap.size := HB45.out.size
    have HB35 : Hid (Below w3.heap.size w3 w5) := HB34.out.trans (HB45.out.mono hs4)
    have HB15 : Hid (Below w1.heap.size w1 w5) := HB13.out.trans (HB35.out.mono (by omega))
    have HB05 : Hid (Below w.heap.size w w5) := HB1.out.trans (HB15.out.mono (by omega))
    clear HB34 HB45
    obtain ⟨hf, hri⟩ := RI_of_lent hB0 (by omega) (fun i hi => by omega) hWb HW.out HLE.out HB15.out
    have HF : Hid (RetFix B0 0 w.heap.size Wb w5.heap.size 0 0 T S v) := hf
    have HR : Hid (RI B0 0 0 w.heap.size Wb (w.heap.size + 1) w5.heap.size 0 0 T S v (.slice none 0 0) (.slice none 0 0) fnil (lf T S 0) (Gk T 0 0) [] [] w5 w5) := hri
    clear hf hri
    have hWl : Wb < w.heap.size := HW.out.lt
    go_wp2_with fail
    refine (returned_none so cap B0 w.heap.size Wb _ w5.heap.size 0 0 T S v _ _ fnil [] [] _ HF.out HR.out).mono ?_
    rintro e w6 ⟨rfl, vs', vt', hri6⟩
    have HW6 : Hid (w6.rowIs Wb 31 9 (wf9 vs' vt' fnil)) := hri6.wrow
    have HFR6 : Hid (∀ g, w1.heap.size ≤ g → g < w5.heap.size → w6.heap[g]? = w5.heap[g]?) := fun g h1 h2 => hri6.frame g h2 (by omega) (by omega) (fun j hj => by omega)
    have HB06 : Hid (Below B0 w w6) := (HB05.out.mono hB0).trans hri6.below
    have hs6 : w5.heap.size ≤ w6.heap.size := hri6.below.size
    clear hri6
    have HQ6 : Hid (w6.rowIs w1.heap.size 3 (pn + 1) (lenf Z pn)) := (HQ2.out.of_block (((HB35.out.block _ (by omega)).trans (HB23.out.block _ (by omega))))).of_block (HFR6.out _ (Nat.le_refl _) (by omega))
    have HZ6 : Hid (1 ≤ pn → ∃ pb po, ao = some ⟨pb, po, none⟩ ∧ IntsAt w6 pb po pn Z) := fun h => by
      obtain ⟨pb, po, e, hpb, hz⟩ := HZ.out h
      exact ⟨pb, po, e, fun i hi => (HB06.out.cell (by exact hpb)).trans (hz i hi)⟩
    go_wp2_with fail
    refine (retInts_any Wb B0 w1.heap.size pn pc ao Z (wf9 vs' vt' fnil) _ hp8 hWb (by omega) (by omega) rfl HW6.out HQ6.out HZ6.out).mono ?_
    rintro e w7 ⟨rfl, hb7, hfr7, vu, hW7⟩
    have HB07 : Hid (Below B0 w w7) := HB06.out.trans hb7
    have hs7 : w6.heap.size ≤ w7.heap.size := hb7.size
    have HW7 : Hid (w7.rowIs Wb 31 9 (fun q => if q = 5 then vu else wf9 vs' vt' fnil q)) := hW7
    have HK7 : Hid (KeepL w7 B0 0 (.slice xo 0 xc)) := HX.out.keep (by omega) (fun g h1 h2 => (hfr7 g (by omega) (by omega) (by omega)).trans ((HFR6.out g (by omega) (by omega)).trans (HB35.out.block g h2)))
    clear hb7 hfr7 hW7
    go_wp2_with fail
    refine (keep_any Wb B0 0 0 (.slice xo 0 xc) _ _ (by omega) (by omega) (by omega) hWb (by omega) rfl rfl rfl HW7.out HK7.out).mono ?_
    rintro e w8 ⟨rfl, hb8⟩
    have HB08 : Hid (Below B0 w w8) := HB07.out.trans hb8
    clear hb8
    go_wp2
    go_ret
    exact ⟨rfl, HB08.out⟩

set_option maxRecDepth 100000 in
set_option maxHeartbeats 1000000 in
theorem law4_some (b off n cap : Nat) (ao : Option Addr) (pn pc : Nat) (T : TD) (Z : Nat → Int) (w : World) (h1 : 1 ≤ n) (hn8 : n * 48 ≤ 140737488351232) (hL : ∀ i, i < n → T.L i * 16 ≤ 140737488351232) (hp8 : pn * 8 ≤ 140737488351232) (hb : b < w.heap.size)
    (hT : TasksAt w b off n T) (hTB : ∀ i, i < n → 1 ≤ T.L i → ∀ a, T.A i = some a → a.block < w.heap.size)
    (hZ : 1 ≤ pn → ∃ pb po, ao = some ⟨pb, po, none⟩ ∧ pb < w.heap.size ∧ IntsAt w pb po pn Z) :
    Calls Try.prog 4 #[.slice (some ⟨b, off, none⟩) n cap, .slice ao pn pc] w fun e w' => e = .returned (.bool true) ∧ Below w.heap.size w w' := by
  have HT : Hid (TasksAt w b off n T) := hT
  have HTB : Hid (∀ i, i < n → 1 ≤ T.L i → ∀ a, T.A i = some a → a.block < w.heap.size) := hTB
  have HL : Hid (∀ i, i < n → T.L i * 16 ≤ 140737488351232) := hL
  have HZ : Hid (1 ≤ pn → ∃ pb po, ao = some ⟨pb, po, none⟩ ∧ pb < w.heap.size ∧ IntsAt w pb po pn Z) := hZ
  clear hT hTB hL hZ
  go_enter Try.func4, Try.ntmps4
  go_wp2_with fail
  refine (analyzes_some b off n cap w.heap.size w.heap.size ao pn pc T Z _ h1 hn8 HL.out hp8 hb (by simp) (Nat.le_refl _) (world_row w) (TasksAt.below HT.out hb (below_alloc1 _ _)) HTB.out (fun h => by
    obtain ⟨pb, po, e, hpb, hz⟩ := HZ.out h
    exact ⟨pb, po, e, hpb, IntsAt.below hz hpb (below_alloc1 _ _)⟩)).mono ?_
  rintro e w4 ⟨rfl, hbel⟩
  have hbel4 : Below w.heap.size w w4 := (below_alloc1 _ _).trans hbel
  clear hbel
  go_wp2
  go_ret
  exact ⟨rfl, hbel4⟩

set_option maxRecDepth 100000 in
set_option maxHeartbeats 1000000 in
theorem law4_none (so : Option Addr) (cap : Nat) (ao : Option Addr) (pn pc : Nat) (T : TD) (Z : Nat → Int) (w : World) (hp8 : pn * 8 ≤ 140737488351232)
    (hZ : 1 ≤ pn → ∃ pb po, ao = some ⟨pb, po, none⟩ ∧ pb < w.heap.size ∧ IntsAt w pb po pn Z) :
    Calls Try.prog 4 #[.slice so 0 cap, .slice ao pn pc] w fun e w' => e = .returned (.bool true) ∧ Below w.heap.size w w' := by
  have HZ : Hid (1 ≤ pn → ∃ pb po, ao = some ⟨pb, po, none⟩ ∧ pb < w.heap.size ∧ IntsAt w pb po pn Z) := hZ
  clear hZ
  go_enter Try.func4, Try.ntmps4
  go_wp2_with fail
  refine (analyzes_none so cap w.heap.size w.heap.size ao pn pc T Z _ hp8 (by simp) (Nat.le_refl _) (world_row w) (fun h => by
    obtain ⟨pb, po, e, hpb, hz⟩ := HZ.out h
    exact ⟨pb, po, e, hpb, IntsAt.below hz hpb (below_alloc1 _ _)⟩)).mono ?_
  rintro e w4 ⟨rfl, hbel⟩
  have hbel4 : Below w.heap.size w w4 := (below_alloc1 _ _).trans hbel
  clear hbel
  go_wp2
  go_ret
  exact ⟨rfl, hbel4⟩
end Go.Proofs.Ytdabcflpcklfiaa
