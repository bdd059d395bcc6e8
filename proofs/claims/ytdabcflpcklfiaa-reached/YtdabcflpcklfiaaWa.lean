import Derived.Test.YtdabcflpcklfiaaProg
import Derived.Test.YtdabcflpcklfiaaMath
import Derived.WalkKit
import Derived.WalkSpells
import Derived.WalkLawsBesides
import Derived.BigQuiet
import Derived.Deep.QuietTactic
namespace Go.Proofs.Ytdabcflpcklfiaa
open Go.RowKit

theorem ret_bool {a b : Bool} (h : a = b) : Ending.returned (.bool a) = .returned (.bool b) := by rw [h]
theorem ret_int {a b : Int} (h : a = b) : Ending.returned (.int .i64 a) = .returned (.int .i64 b) := by rw [h]

set_option maxHeartbeats 400000 in
theorem within_any (x a b : Int) (w : World) :
    Calls Try.prog 93 #[.int .i64 x, .int .i64 a, .int .i64 b] w fun e w' => e = .returned (.bool (decide (a ≤ x ∧ x ≤ b))) ∧ w' = w := by
  by_cases h1 : a ≤ x
  · by_cases h2 : x ≤ b
    · go_enter Try.func93, Try.ntmps93
      go_wp2
      go_ret
      exact ⟨ret_bool (by simp [h1, h2]), rfl⟩
    · go_enter Try.func93, Try.ntmps93
      go_wp2
      go_ret
      exact ⟨ret_bool (by simp; omega), rfl⟩
  · go_enter Try.func93, Try.ntmps93
    go_wp2
    go_ret
    exact ⟨ret_bool (by simp; omega), rfl⟩

set_option maxHeartbeats 400000 in
theorem has_any (b off len cap : Nat) (Z : Nat → Int) (n : Int) (w : World) (hm : len ≤ 9223372036854775807)
    (hc : ∀ i, i < len → w.cell? ⟨b, off + i, none⟩ = some (.int .i64 (Z i))) :
    Calls Try.prog 87 #[.slice (some ⟨b, off, none⟩) len cap, .int .i64 n] w fun e w' => e = .returned (.bool (Cad.hasB Z len n)) ∧ w' = w := by
  go_enter Try.func87, Try.ntmps87
  go_wp2
  go_loop [5] (fun i => ∃ k : Nat, k ≤ len ∧ i = .int .i64 k ∧ ∀ j, j < k → Z j ≠ n) (fun i => len - (intOf i).toNat)
  case atStart => exact ⟨0, Nat.zero_le _, rfl, fun j hj => by omega⟩
  case round =>
    obtain ⟨k, hk, rfl, hn⟩ := hrel
    have HN : Hid (∀ j, j < k → Z j ≠ n) := hn
    clear hn
    by_cases hlt : k < len
    · have hcell := hc k hlt
      go_wp2
      · have h : (Z k == n) = true := by assumption
        go_ret
        exact ⟨ret_bool (Cad.hasB_yes hlt h).symm, rfl⟩
      · have h : (Z k == n) = false := by assumption
        go_round
        case rel => exact ⟨k + 1, by omega, by go_num, fun j hj => by
          by_cases e : j = k
          · subst e; simpa using h
          · exact HN.out j (by omega)⟩
        case measure => simp [intOf]; omega
    · go_wp2
      go_ret
      obtain rfl : k = len := by omega
      exact ⟨ret_bool (Cad.hasB_no HN.out).symm, rfl⟩

set_option maxHeartbeats 400000 in
theorem has_none (ao : Option Addr) (cap : Nat) (n : Int) (w : World) :
    Calls Try.prog 87 #[.slice ao 0 cap, .int .i64 n] w fun e w' => e = .returned (.bool false) ∧ w' = w := by
  go_enter Try.func87, Try.ntmps87
  go_wp2
  refine wp_loop_rounds 1 ?_
  rw [rounds_succ]
  go_wp2
  go_ret
  exact ⟨rfl, rfl⟩

set_option maxHeartbeats 400000 in
theorem index_any (b off len cap : Nat) (Z : Nat → Int) (n : Int) (w : World) (hm : len ≤ 9223372036854775807)
    (hc : ∀ i, i < len → w.cell? ⟨b, off + i, none⟩ = some (.int .i64 (Z i))) :
    Calls Try.prog 133 #[.slice (some ⟨b, off, none⟩) len cap, .int .i64 n] w fun e w' => ∃ r : Int, e = .returned (.int .i64 r) ∧ decide (r ≥ 0) = Cad.hasB Z len n ∧ w' = w := by
  go_enter Try.func133, Try.ntmps133
  go_wp2
  go_loop [8] (fun i => ∃ k : Nat, k ≤ len ∧ i = .int .i64 k ∧ ∀ j, j < k → Z j ≠ n) (fun i => len - (intOf i).toNat)
  case atStart => exact ⟨0, Nat.zero_le _, rfl, fun j hj => by omega⟩
  case round =>
    obtain ⟨k, hk, rfl, hn⟩ := hrel
    have HN : Hid (∀ j, j < k → Z j ≠ n) := hn
    clear hn
    by_cases hlt : k < len
    · have hcell := hc k hlt
      go_wp2
      · have h : (n == Z k) = true := by assumption
        go_ret
        exact ⟨k, rfl, by rw [Cad.hasB_yes hlt (by simp at h; simp [h])]; simp, rfl⟩
      · have h : (n == Z k) = false := by assumption
        go_round
        case rel => exact ⟨k + 1, by omega, by go_num, fun j hj => by
          by_cases e : j = k
          · subst e; simp at h; exact fun e => h e.symm
          · exact HN.out j (by omega)⟩
        case measure => simp [intOf]; omega
    · go_wp2
      go_ret
      obtain rfl : k = len := by omega
      exact ⟨-1, rfl, by rw [Cad.hasB_no HN.out]; simp, rfl⟩

set_option maxHeartbeats 400000 in
theorem contains_any (b off len cap : Nat) (Z : Nat → Int) (n : Int) (w : World) (hm : len ≤ 9223372036854775807)
    (hc : ∀ i, i < len → w.cell? ⟨b, off + i, none⟩ = some (.int .i64 (Z i))) :
    Calls Try.prog 113 #[.slice (some ⟨b, off, none⟩) len cap, .int .i64 n] w fun e w' => e = .returned (.bool (Cad.hasB Z len n)) ∧ w' = w := by
  go_enter Try.func113, Try.ntmps113
  go_wp2_with fail
  refine (index_any b off len cap Z n _ hm hc).mono ?_
  rintro e w' ⟨r, rfl, hr, rfl⟩
  have HR : Hid (decide (r ≥ 0) = Cad.hasB Z len n) := hr
  clear hr hc
  go_wp2
  go_ret
  exact ⟨ret_bool HR.out, rfl⟩

theorem below_alloc1 (w : World) (o : Obj) : Below w.heap.size w (w.alloc o) := (Below.refl _ _).alloc (Nat.le_refl _) _

set_option maxHeartbeats 400000 in
theorem times_any (p d j : Int) (v : Value) (w : World) :
    Calls Try.prog 85 #[.agg #[.int .i64 p, .int .i64 d, .int .i64 j, v]] w fun e w' => e = .returned (.bool (Cad.timesB p d j)) ∧ Below w.heap.size w w' := by
  by_cases h1 : 1 ≤ p ∧ p ≤ 10000
  · by_cases h2 : 1 ≤ d ∧ d ≤ p
    · go_enter Try.func85, Try.ntmps85
      go_wp2_with (go_at_call 93; refine (within_any _ _ _ _).mono ?_; rintro e w' ⟨rfl, rfl⟩)
      go_ret
      exact ⟨ret_bool (by rw [Bool.eq_iff_iff]; simp [Cad.timesB]; omega), below_alloc1 _ _⟩
    · go_enter Try.func85, Try.ntmps85
      go_wp2_with (go_at_call 93; refine (within_any _ _ _ _).mono ?_; rintro e w' ⟨rfl, rfl⟩)
      go_ret
      exact ⟨ret_bool (by simp only [Cad.timesB]; symm; rw [decide_eq_false_iff_not]; omega), below_alloc1 _ _⟩
  · go_enter Try.func85, Try.ntmps85
    go_wp2_with (go_at_call 93; refine (within_any _ _ _ _).mono ?_; rintro e w' ⟨rfl, rfl⟩)
    go_ret
    exact ⟨ret_bool (by simp only [Cad.timesB]; symm; rw [decide_eq_false_iff_not]; omega), below_alloc1 _ _⟩

end Go.Proofs.Ytdabcflpcklfiaa
