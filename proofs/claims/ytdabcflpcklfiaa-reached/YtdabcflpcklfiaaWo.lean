import Derived.Test.YtdabcflpcklfiaaWn
namespace Go.Proofs.Ytdabcflpcklfiaa
open Go.RowKit

theorem inter_on {T : TD} {Hs : Nat → Bool} {j : Nat} {w : Int} (h : Hs j = true) : Cad.inter T.P T.J T.dm Hs w (j + 1) = Cad.inter T.P T.J T.dm Hs w j + Cad.ceilD (w + T.J j) (T.P j) * T.dm j := by
  simp only [Cad.inter]
  rw [if_pos h]

theorem inter_off {T : TD} {Hs : Nat → Bool} {j : Nat} {w : Int} (h : Hs j = false) : Cad.inter T.P T.J T.dm Hs w (j + 1) = Cad.inter T.P T.J T.dm Hs w j := by
  simp only [Cad.inter]
  rw [if_neg (by simp [h])]
  omega

set_option maxRecDepth 100000 in
set_option maxHeartbeats 2000000 in
theorem interf_any (g n cap : Nat) (T : TD) (Hs : Nat → Bool) (u : Int) (w : World) (hG : Good T n) (hu0 : 0 ≤ u) (hu1 : u ≤ 20000) (hg : g < w.heap.size) (hS : SysAt w g n T) :
    Calls Try.prog 70 #[.slice (some ⟨g, 0, none⟩) n cap, .int .i64 u, setV Hs] w fun e w' => e = .returned (.int .i64 (Cad.inter T.P T.J T.dm Hs u n)) ∧ Below w.heap.size w w' := by
  have HS : Hid _ := hS
  have HG : Hid _ := hG
  have h8 := hG.eight
  have hset := set_row w Hs
  have hba := below_alloc1 w (.cells #[.bool (Hs 0), .bool (Hs 1), .bool (Hs 2), .bool (Hs 3), .bool (Hs 4), .bool (Hs 5), .bool (Hs 6), .bool (Hs 7)] 86)
  have hsz0 : w.heap.size < (w.alloc (.cells #[.bool (Hs 0), .bool (Hs 1), .bool (Hs 2), .bool (Hs 3), .bool (Hs 4), .bool (Hs 5), .bool (Hs 6), .bool (Hs 7)] 86)).heap.size := hset.lt
  clear hS hG
  unfold setV
  go_enter Try.func70, Try.ntmps70
  go_wp2
  generalize (w.alloc (.cells #[.bool (Hs 0), .bool (Hs 1), .bool (Hs 2), .bool (Hs 3), .bool (Hs 4), .bool (Hs 5), .bool (Hs 6), .bool (Hs 7)] 86)) = W at *
  go_loopw [7, 12] (fun sv iv wr => ∃ i : Nat, i ≤ n ∧ iv = .int .i64 i ∧ sv = .int .i64 (Cad.inter T.P T.J T.dm Hs u i) ∧ Below (w.heap.size + 1) W wr) (fun _ iv _ => n - (intOf iv).toNat)
  case atStart => exact ⟨0, Nat.zero_le _, rfl, rfl, Below.refl _ _⟩
  case round =>
    obtain ⟨i, hi, rfl, rfl, hbel⟩ := hrel
    have hszw := hbel.size
    have HB0 : Hid (Below w.heap.size w wr) := hba.trans (hbel.mono (by omega))
    have hib := Cad.inter_bound (hi := Hs) HG.out.timesOk (w := u) hu0 hu1 i hi
    by_cases hlt : i < n
    · obtain ⟨c0, c1, c2, c3, c4, c5, c6, c7, c8, c9, c10, c11⟩ := SysAt.below HS.out hg HB0.out i hlt
      have hb : wr.cell? ⟨w.heap.size, i, none⟩ = some (.bool (Hs i)) := (hbel.cell (by simp)).trans (hset.cell (by omega))
      have hgw : g < wr.heap.size := by omega
      have hww : w.heap.size < wr.heap.size := by omega
      have HBE : ∀ o, Below (w.heap.size + 1) W (wr.alloc o) := fun o => hbel.alloc (by omega) o
      obtain ⟨jp1, jp2, jd1, jd2, jj1, jj2⟩ := HG.out.times i hlt
      have hib1 := Cad.inter_bound (hi := Hs) HG.out.timesOk (w := u) hu0 hu1 (i + 1) hlt
      cases hh : Hs i
      · have HI : Hid _ := inter_off (T := T) (w := u) hh
        rw [hh] at hb
        clear hh hib1
        go_wp2
        go_roundw
        case rel => exact ⟨i + 1, by omega, by go_num, by rw [HI.out], HBE _⟩
        case measure => simp [intOf]; omega
      · have HI : Hid _ := inter_on (T := T) (w := u) hh
        rw [hh] at hb
        rw [HI.out] at hib1
        clear hh
        have q0 := Cad.ceilD_nonneg (a := u + T.J i) (p := T.P i) (by omega) jp1
        have q1 := Cad.ceilD_le (a := u + T.J i) (p := T.P i) (by omega) jp1
        obtain ⟨_, _, _, d0, d1⟩ := HG.out.timesOk i hlt
        have m0 : 0 ≤ Cad.ceilD (u + T.J i) (T.P i) * T.dm i := Int.mul_nonneg q0 d0
        have m1 : Cad.ceilD (u + T.J i) (T.P i) * T.dm i ≤ 30000 * 1600 := Int.mul_le_mul (by omega) d1 d0 (by omega)
        go_wp2
        go_quiet ((go_at_call 95; exact Calls.quiet_of_same (rounded_any _ _ _ (by omega) (by omega) (by omega) (by omega))))
        go_wp2
        go_roundw
        case rel => exact ⟨i + 1, by omega, by go_num, by rw [HI.out], below_drewN (HBE _) _⟩
        case measure => simp [intOf]; omega
    · obtain rfl : i = n := by omega
      go_wp2
      go_ret
      exact ⟨rfl, HB0.out⟩
end Go.Proofs.Ytdabcflpcklfiaa
