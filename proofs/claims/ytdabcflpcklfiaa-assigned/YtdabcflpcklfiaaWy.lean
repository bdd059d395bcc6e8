import Derived.Test.YtdabcflpcklfiaaWw
namespace Go.Proofs.Ytdabcflpcklfiaa
open Go.RowKit

set_option maxRecDepth 100000 in
set_option maxHeartbeats 2000000 in
theorem retInts_any (Wb B0 qb n cap : Nat) (ao : Option Addr) (Z : Nat → Int) (F : Nat → Value) (w : World) (hn : n * 8 ≤ 140737488351232) (hWb : B0 ≤ Wb) (hqb : B0 ≤ qb) (hB : B0 ≤ w.heap.size) (hF5 : F 5 = .slice none 0 0)
    (hW : w.rowIs Wb 31 9 F) (hq : w.rowIs qb 3 (n + 1) (lenf Z n)) (hZ : 1 ≤ n → ∃ b off, ao = some ⟨b, off, none⟩ ∧ IntsAt w b off n Z) :
    Calls Try.prog 38 #[.pointer (some ⟨Wb, 0, none⟩), .slice (some ⟨qb, 0, none⟩) (n + 1) (n + 1), .slice ao n cap] w fun e w' => e = .returned (.bool true) ∧ Below B0 w w' ∧ (∀ g, g < w.heap.size → g ≠ qb → g ≠ Wb → w'.heap[g]? = w.heap[g]?) ∧ ∃ vu, w'.rowIs Wb 31 9 (fun q => if q = 5 then vu else F q) := by
  obtain ⟨i6, hi6, hz60, hz61, hz62⟩ := info_parts Try.info26
  have HW : Hid (w.rowIs Wb 31 9 F) := hW
  have HQ : Hid (w.rowIs qb 3 (n + 1) (lenf Z n)) := hq
  have HZ : Hid (1 ≤ n → ∃ b off, ao = some ⟨b, off, none⟩ ∧ IntsAt w b off n Z) := hZ
  have HF5 : Hid (F 5 = .slice none 0 0) := hF5
  have HQI : Hid (1 ≤ n → ∃ b off, (some ⟨qb, 0, none⟩ : Option Addr) = some ⟨b, off, none⟩ ∧ IntsAt w b off n Z) := fun _ => ⟨qb, 0, rfl, fun i hi => by rw [Nat.zero_add, hq.cell (by omega)]; unfold lenf; rw [if_pos hi]⟩
  have cn : w.cell? ⟨qb, n, none⟩ = some (.int .i64 0) := (hq.cell (by omega)).trans (by unfold lenf; rw [if_neg (by omega)]; rfl)
  have hql := hq.lt
  clear hW hq hZ hF5
  go_enter Try.func38, Try.ntmps38
  go_wp2_with fail
  refine (sameInts_any (some ⟨qb, 0, none⟩) ao n (n + 1) cap Z _ (by omega) HQI.out HZ.out).mono ?_
  rintro e w1 ⟨rfl, m, rfl⟩
  go_wp2_with fail
  clear cn
  go_loopw [10] (fun iv wr => ∃ i : Nat, i ≤ n + 1 ∧ iv = .int .i64 i ∧ (∃ f, wr.rowIs qb 3 (n + 1) f) ∧ wr.rowIs Wb 31 9 F ∧ (∀ g, g ≠ qb → wr.heap[g]? = w.heap[g]?) ∧ wr.heap.size = w.heap.size ∧ Below B0 w wr) (fun iv _ => n + 1 - (intOf iv).toNat)
  case atStart => exact ⟨0, Nat.zero_le _, rfl, ⟨_, HQ.out⟩, HW.out, fun g _ => rfl, rfl, below_drewN (Below.refl _ _) _⟩
  case round =>
    obtain ⟨i, hi, rfl, ⟨f, hrow⟩, hw, hfr, hsz, hbel⟩ := hrel
    by_cases hlt : i < n + 1
    · have x : wr.cell? ⟨qb, i, none⟩ = some (f i) := hrow.cell hlt
      have z : ∀ q, wr.frozen? ⟨qb, q, none⟩ = false := fun q => hrow.frozen q
      have FR : Hid (∃ f, (wr.setCell ⟨qb, i, none⟩ (.int .i64 (-7))).rowIs qb 3 (n + 1) f) := ⟨_, hrow.set i _⟩
      have FW : Hid ((wr.setCell ⟨qb, i, none⟩ (.int .i64 (-7))).rowIs Wb 31 9 F) := hw.setOther (rows_ne hw hrow (by decide)) _
      have FF : Hid (∀ g, g ≠ qb → (wr.setCell ⟨qb, i, none⟩ (.int .i64 (-7))).heap[g]? = w.heap[g]?) := fun g hg => (Deep.blk_setCell_other _ _ _ _ (by exact hg)).trans (hfr g hg)
      have FS : Hid ((wr.setCell ⟨qb, i, none⟩ (.int .i64 (-7))).heap.size = w.heap.size) := by unfold Hid; rw [Deep.nblk_setCell]; exact hsz
      have FB : Hid (Below B0 w (wr.setCell ⟨qb, i, none⟩ (.int .i64 (-7)))) := hbel.setCell hqb _
      clear hrow hw hfr hsz hbel
      go_wp2
      go_roundw
      case rel => exact ⟨i + 1, by omega, by go_num, FR.out, FW.out, FF.out, FS.out, FB.out⟩
      case measure => simp [intOf]; omega
    · have a5 : wr.cell? ⟨Wb, 5, none⟩ = some (.slice none 0 0) := (hw.cell (by omega)).trans (by rw [HF5.out])
      have HWR : Hid (wr.rowIs Wb 31 9 F) := hw
      have HFR : Hid (∀ g, g ≠ qb → wr.heap[g]? = w.heap[g]?) := hfr
      have HBE : Hid (Below B0 w wr) := hbel
      have HSZ : Hid (wr.heap.size = w.heap.size) := hsz
      have hwl := hw.lt
      clear hrow hw hfr hbel hsz
      go_wp2_with (at_builtin; refine wpList_append_own _ rfl _ _ 27 rfl wr.heap.size 26 i6 (.slice none 0 0) 1 24 Try.underlying27 hi6 hz60 hz61 hz62 rfl (by decide) _ _ _ rfl (World.ownsRow_nil _ _ _ _) ⟨wr.heap.size, 0, none⟩ 1 1 [.slice (some ⟨qb, 0, none⟩) (n + 1) (n + 1)] rfl rfl ?c1 ?c2 ?c3 ?c4 ?c5 ?_)
      case c1 => exact cell_one_at _ _ rfl _ _
      case c2 => exact one_oneCell rfl
      case c3 => unfold maxLen; omega
      case c4 => omega
      case c5 => simp
      intro v5 w5 hown5 hg5 _
      obtain ⟨g5, cap5, hv5⟩ := own_slice hown5
      rw [hv5]
      have hblk : ∀ g, g < wr.heap.size → w5.heap[g]? = wr.heap[g]? := fun g hg => (hg5.block g (by simp; omega) (by simp [Value.ownBlock])).trans (Below.heap_alloc _ _ _ hg)
      have hrow5 : w5.rowIs Wb 31 9 F := World.rowIs.of_block HWR.out (hblk _ hwl)
      have b5 : w5.cell? ⟨Wb, 5, none⟩ = some (.slice none 0 0) := (hrow5.cell (by omega)).trans (by rw [HF5.out])
      have bz : ∀ q, w5.frozen? ⟨Wb, q, none⟩ = false := fun q => hrow5.frozen q
      have FW : Hid ((w5.setCell ⟨Wb, 5, none⟩ (.slice (some ⟨g5, 0, none⟩) (0 + 1) cap5)).rowIs Wb 31 9 (fun q => if q = 5 then .slice (some ⟨g5, 0, none⟩) (0 + 1) cap5 else F q)) := hrow5.set 5 _
      have FF : Hid (∀ g, g < w.heap.size → g ≠ qb → g ≠ Wb → (w5.setCell ⟨Wb, 5, none⟩ (.slice (some ⟨g5, 0, none⟩) (0 + 1) cap5)).heap[g]? = w.heap[g]?) := fun g h1 h2 h3 => (Deep.blk_setCell_other _ _ _ _ (by exact h3)).trans ((hblk g (by rw [HSZ.out]; exact h1)).trans (HFR.out g h2))
      have FB : Hid (Below B0 w (w5.setCell ⟨Wb, 5, none⟩ (.slice (some ⟨g5, 0, none⟩) (0 + 1) cap5))) := ((HBE.out.alloc (by rw [HSZ.out]; exact hB) _).grown hg5 (by simp; rw [HSZ.out]; omega) (fun q hq => by simp [Value.ownBlock] at hq)).setCell hWb _
      clear hown5 hg5 hblk hrow5 hv5 a5
      go_wp2
      go_ret
      exact ⟨rfl, FB.out, FF.out, _, FW.out⟩
end Go.Proofs.Ytdabcflpcklfiaa
