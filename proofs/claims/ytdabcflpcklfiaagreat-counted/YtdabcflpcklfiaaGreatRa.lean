import Derived.Test.YtdabcflpcklfiaaGreatK02
/- Raw numbers: which of n things they speak of. -/
namespace Go.Proofs.YtdabcflpcklfiaaGreat
open Go.RowKit Cad

def I64 (x : Int) : Prop := -9223372036854775808 ≤ x ∧ x ≤ 9223372036854775807

def pickI (c n : Int) : Int := (if c < 0 then -(c + 1) else c) % n

theorem pickI_range {c n : Int} (hn : 1 ≤ n) : 0 ≤ pickI c n ∧ pickI c n < n := by
  unfold pickI
  exact ⟨Int.emod_nonneg _ (by omega), Int.emod_lt_of_pos _ (by omega)⟩

set_option maxHeartbeats 400000 in
theorem pick_any (c n : Int) (w : World) (hc : I64 c) (hn : 1 ≤ n) (hn2 : n ≤ 1000000000) :
    Calls Tryz.prog 10 #[.int .i64 c, .int .i64 n] w fun e w' => e = .returned (.int .i64 (pickI c n)) ∧ w' = w := by
  obtain ⟨h1, h2⟩ := hc
  by_cases h : c < 0
  · have hd : decide (c < 0) = true := by simpa using h
    have HE : Hid (pickI c n = (-(c + 1)) % n) := by unfold Hid pickI; rw [if_pos h]
    have hp := pickI_range (c := c) hn
    go_enter Tryz.func10, Tryz.ntmps10
    go_wp2
    go_ret
    refine ⟨?_, rfl⟩
    rw [HE.out, ← Int.tmod_eq_emod_of_nonneg (by omega), Int.neg_tmod]
    rfl
  · have hd : decide (c < 0) = false := by simpa using h
    have HE : Hid (pickI c n = c % n) := by unfold Hid pickI; rw [if_neg h]
    have hp := pickI_range (c := c) hn
    go_enter Tryz.func10, Tryz.ntmps10
    go_wp2
    go_ret
    refine ⟨?_, rfl⟩
    rw [HE.out]
    rfl

end Go.Proofs.YtdabcflpcklfiaaGreat
