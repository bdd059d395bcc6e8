import Derived.Test.YtdabcflpcklfiaaQc
/- The law Assigned, whole. -/
namespace Go.Proofs.Ytdabcflpcklfiaa
open Go.RowKit

set_option maxRecDepth 100000 in
set_option maxHeartbeats 3000000 in
theorem assigns_none (so : Option Addr) (cap Wb B0 : Nat) (T : TD) (w : World) (hB0 : B0 ≤ w.heap.size) (hWb : B0 ≤ Wb) (hW : w.rowIs Wb 31 9 (wf9 (.slice none 0 0) (.slice none 0 0) fnil)) :
    Calls Try.prog 13 #[.pointer (some ⟨Wb, 0, none⟩), .slice so 0 cap] w fun e w' => e = .returned (.bool true) ∧ Below B0 w w' := by
  have HW : Hid (w.rowIs Wb 31 9 (wf9 (.slice none 0 0) (.slice none 0 0) fnil)) := hW
  clear hW
  go_enter Try.func13, Try.ntmps13
  go_wp2_with fail
  refine (lent_none so cap T _).mono ?_
  rintro e w1 ⟨S, v, rfl, hlent⟩
  have HLE : Hid (LentInv w.heap.size 0 0 T S v w w1) := hlent
  have hlt1 : w.heap.size < w1.heap.size := hlent.lrow.lt
  have HB1 : Hid (Below w.heap.size w w1) := hlent.below
  clear hlent
  have HC3 : Hid (∀ c w1', Below w1.heap.size w1 w1' → Calls Try.prog 15 #[.slice (some ⟨w.heap.size, 0, none⟩) 0 c] w1' fun e w' => e = .returned (.tuple #[.slice none 0 0, .int .i64 1, .int .i64 0]) ∧ Below w1'.heap.size w1' w') := by
    unfold Hid
    intro c w1' hb'
    exact assign_err _ 0 c 1 0 w1' (by decide) (check_errs _ 0 c T w1' (by omega) (fun h => by omega) 1 0 (by unfold chkR; rw [if_neg (by omega)]) w1' (Below.refl _ _))
  go_wp2_with fail
  refine (HC3.out _ _ (Below.refl _ _)).mono ?_
  rintro e w3 ⟨rfl, hb3⟩
  have hs3 : w1.heap.size ≤ w3.heap.size := hb3.size
  have HB13 : Hid (Below w1.heap.size w1 w3) := hb3
  clear hb3 HC3
  go_wp2_with fail
  refine (refassign_err so 0 cap 1 0 w3 (by decide) ((ref_many so 0 cap w3 (by omega) (by omega)).mono (fun e w' h => by
    obtain ⟨h1, h2⟩ := h
    exact ⟨h1, by rw [h2]; exact Below.refl _ _⟩))).mono ?_
  rintro e w4 ⟨rfl, hb4⟩
  have hs4 : w3.heap.size ≤ w4.heap.size := hb4.size
  have HB34 : Hid (Below w3.heap.size w3 w4) := hb4
  clear hb4
  go_wp2_with fail
  refine (sameInts_any none none 0 _ 0 (fun _ => 0) _ (by omega) (fun h => by omega) (fun h => by omega)).mono ?_
  rintro e w5 ⟨rfl, k5, hw5⟩
  have HB45 : Hid (Below w4.heap.size w4 w5) := by rw [hw5]; exact below_drewN (Below.refl _ _) _
  clear hw5
  have hs5 : w4.heap.size ≤ w5.heap.size := HB45.out.size
  have HB15 : Hid (Below w1.heap.size w1 w5) := HB13.out.trans ((HB34.out.trans (HB45.out.mono hs4)).mono (by omega))
  have HB05 : Hid (Below w.heap.size w w5) := HB1.out.trans (HB15.out.mono (by omega))
  clear HB34 HB45
  obtain ⟨hf, hri⟩ := RI_of_lent hB0 (by omega) (fun i hi => by omega) hWb HW.out HLE.out HB15.out
  have HF : Hid (RetFix B0 0 w.heap.size Wb w5.heap.size 0 0 T S v) := hf
  have HR : Hid (RI B0 0 0 w.heap.size Wb (w.heap.size + 1) w5.heap.size 0 0 T S v (.slice none 0 0) (.slice none 0 0) fnil (lf T S 0) (Gk T 0 0) [] [] w5 w5) := hri
  clear hf hri
  have hWl : Wb < w.heap.size := HW.out.lt
  go_wp2_with fail
  refine (returned_none so cap B0 w.heap.size Wb _ w5.heap.size 0 0 T S v _ _ fnil [] [] _ HF.out HR.out).mono ?_
  rintro e w6 ⟨rfl, vs', vt', hri6⟩
  have HW6 : Hid (w6.rowIs Wb 31 9 (wf9 vs' vt' fnil)) := hri6.wrow
  have HB06 : Hid (Below B0 w w6) := (HB05.out.mono hB0).trans hri6.below
  have hs6 : w5.heap.size ≤ w6.heap.size := hri6.below.size
  clear hri6
  have HK6 : Hid (KeepL w6 B0 0 (.slice none 0 0)) := .inl ⟨rfl, rfl⟩
  go_wp2_with fail
  refine (keep_any Wb B0 0 0 (.slice none 0 0) _ _ (by omega) (by omega) (by omega) hWb (by omega) rfl rfl rfl HW6.out HK6.out).mono ?_
  rintro e w8 ⟨rfl, hb8⟩
  have HB08 : Hid (Below B0 w w8) := HB06.out.trans hb8
  clear hb8
  go_wp2
  go_ret
  exact ⟨rfl, HB08.out⟩

set_option maxRecDepth 100000 in
set_option maxHeartbeats 1000000 in
theorem law5_some (b off n cap : Nat) (T : TD) (w : World) (h1 : 1 ≤ n) (hn8 : n * 48 ≤ 140737488351232) (hL : ∀ i, i < n → T.L i * 16 ≤ 140737488351232) (hb : b < w.heap.size)
    (hT : TasksAt w b off n T) (hTB : ∀ i, i < n → 1 ≤ T.L i → ∀ a, T.A i = some a → a.block < w.heap.size) :
    Calls Try.prog 5 #[.slice (some ⟨b, off, none⟩) n cap] w fun e w' => e = .returned (.bool true) ∧ Below w.heap.size w w' := by
  have HT : Hid (TasksAt w b off n T) := hT
  have HTB : Hid (∀ i, i < n → 1 ≤ T.L i → ∀ a, T.A i = some a → a.block < w.heap.size) := hTB
  have HL : Hid (∀ i, i < n → T.L i * 16 ≤ 140737488351232) := hL
  clear hT hTB hL
  go_enter Try.func5, Try.ntmps5
  go_wp2_with fail
  refine (assigns_some b off n cap w.heap.size w.heap.size T _ h1 hn8 HL.out hb (by simp) (Nat.le_refl _) (world_row w) (TasksAt.below HT.out hb (below_alloc1 _ _)) HTB.out).mono ?_
  rintro e w4 ⟨rfl, hbel⟩
  have hbel4 : Below w.heap.size w w4 := (below_alloc1 _ _).trans hbel
  clear hbel
  go_wp2
  go_ret
  exact ⟨rfl, hbel4⟩

set_option maxRecDepth 100000 in
set_option maxHeartbeats 1000000 in
theorem law5_none (so : Option Addr) (cap : Nat) (T : TD) (w : World) :
    Calls Try.prog 5 #[.slice so 0 cap] w fun e w' => e = .returned (.bool true) ∧ Below w.heap.size w w' := by
  go_enter Try.func5, Try.ntmps5
  go_wp2_with fail
  refine (assigns_none so cap w.heap.size w.heap.size T _ (by simp) (Nat.le_refl _) (world_row w)).mono ?_
  rintro e w4 ⟨rfl, hbel⟩
  have hbel4 : Below w.heap.size w w4 := (below_alloc1 _ _).trans hbel
  clear hbel
  go_wp2
  go_ret
  exact ⟨rfl, hbel4⟩
end Go.Proofs.Ytdabcflpcklfiaa
