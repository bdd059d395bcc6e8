import Derived.Test.YtdabcflpcklfiaaMg
/- Who has the tick. -/
namespace Go.Proofs.Ytdabcflpcklfiaa
open Go.RowKit Cad

set_option maxRecDepth 100000 in
set_option maxHeartbeats 2000000 in
theorem chosen_any (S : Sy) (m : Mc) (Y : Lay) (w : World) (ho : Ok S m) (h : MAt w S m Y) :
    Calls Try.prog 75 #[.pointer (some ⟨Y.mb, 0, none⟩)] w fun e w' => e = .returned (.int .i64 (chTo S m S.n).1) ∧ Below w.heap.size w w' := by
  obtain ⟨c0, c3, c20⟩ := h.mc
  have h8 := ho.eight
  have HO : Hid (Ok S m) := ho
  have HM : Hid (MAt w S m Y) := h
  clear h ho c0 c20
  go_enter Try.func75, Try.ntmps75
  go_wp2
  clear c3
  go_loopw [3, 4, 12] (fun b g i wr => ∃ k : Nat, k ≤ S.n ∧ i = .int .i64 k ∧ b = .int .i64 (chTo S m k).1 ∧ g = .int .i64 (chTo S m k).2 ∧ Below w.heap.size w wr) (fun _ _ i _ => S.n - (intOf i).toNat)
  case atStart => exact ⟨0, by omega, rfl, rfl, rfl, Below.refl _ _⟩
  case round =>
    obtain ⟨k, hk, rfl, rfl, rfl, hbel⟩ := hrel
    have HB : Hid (Below w.heap.size w wr) := hbel
    have hsz := hbel.size
    clear hbel
    by_cases hlt : k < S.n
    · go_wp2_with fail
      refine (ready_any S m Y k wr HO.out hlt (HM.out.below HB.out)).mono ?_
      rintro e w1 ⟨rfl, hb1⟩
      have HB1 : Hid (Below w.heap.size w w1) := HB.out.trans (hb1.mono hsz)
      clear hb1
      by_cases hr : readyB m k = true
      · rw [hr]
        have hrr := rank_range HO.out hlt m.hold
        go_wp2_with fail
        refine (rank_any S m Y k w1 HO.out hlt (HM.out.below HB1.out)).mono ?_
        rintro e w2 ⟨rfl, rfl⟩
        by_cases hg : (chTo S m k).2 < rank S m.hold k
        · have HE : Hid (chTo S m (k + 1) = ((k : Int), rank S m.hold k)) := by unfold Hid; rw [chTo, if_pos ⟨hr, hg⟩]
          go_wp2
          go_roundw
          case rel => exact ⟨k + 1, by omega, by go_num, by rw [HE.out], by rw [HE.out], HB1.out⟩
          case measure => simp [intOf]; omega
        · have HE : Hid (chTo S m (k + 1) = chTo S m k) := by unfold Hid; rw [chTo, if_neg (fun h => hg h.2)]
          go_wp2
          go_roundw
          case rel => exact ⟨k + 1, by omega, by go_num, by rw [HE.out], by rw [HE.out], HB1.out⟩
          case measure => simp [intOf]; omega
      · have hr' : readyB m k = false := by simpa using hr
        rw [hr']
        have HE : Hid (chTo S m (k + 1) = chTo S m k) := by unfold Hid; rw [chTo, if_neg (fun h => hr h.1)]
        go_wp2
        go_roundw
        case rel => exact ⟨k + 1, by omega, by go_num, by rw [HE.out], by rw [HE.out], HB1.out⟩
        case measure => simp [intOf]; omega
    · obtain rfl : k = S.n := by omega
      go_wp2
      go_ret
      exact ⟨rfl, HB.out⟩
end Go.Proofs.Ytdabcflpcklfiaa
