import Derived.Test.YtdabcflpcklfiaaWi
import Derived.Test.YtdabcflpcklfiaaWh
namespace Go.Proofs.Ytdabcflpcklfiaa
open Go.RowKit

def z1 (_ : Nat) : Value := .int .i64 0
theorem zero_1 (q : Nat) : ((Value.int .i64 0).cells[q % (Value.int .i64 0).cells.size]!) = z1 q := by
  have hs : (Value.int .i64 0).cells = #[.int .i64 0] := rfl
  rw [hs]
  show (#[Value.int .i64 0][q % 1]!) = _
  rw [Nat.mod_one]
  rfl

def lenf (Z : Nat → Int) (n q : Nat) : Value := if q < n then .int .i64 (Z q) else z1 q

set_option maxRecDepth 100000 in
set_option maxHeartbeats 1000000 in
theorem lentInts_any (ao : Option Addr) (n cap : Nat) (Z : Nat → Int) (w : World) (hn : n * 8 ≤ 140737488351232) (hZ : 1 ≤ n → ∃ b off, ao = some ⟨b, off, none⟩ ∧ b < w.heap.size ∧ IntsAt w b off n Z) :
    Calls Try.prog 35 #[.slice ao n cap] w fun e w' => e = .returned (.slice (some ⟨w.heap.size, 0, none⟩) (n + 1) (n + 1)) ∧ w'.rowIs w.heap.size 3 (n + 1) (lenf Z n) ∧ Below w.heap.size w w' := by
  obtain ⟨i0, hi0, hz0, hz1, hz2⟩ := info_parts Try.info3
  have HZ : Hid (1 ≤ n → ∃ b off, ao = some ⟨b, off, none⟩ ∧ b < w.heap.size ∧ IntsAt w b off n Z) := hZ
  clear hZ
  go_enter Try.func35, Try.ntmps35
  go_wp2_with (at_make; refine wpList_make_is _ rfl _ _ 26 rfl 3 i0 _ 1 8 Try.underlying26 hi0 hz0 hz1 hz2 _ _ _ _ (n + 1) rfl rfl (by omega) (by omega) (by omega) (by omega) z1 zero_1 ?_)
  intro w1 hr1 hg1 hs1
  have HB1 : Hid (Below w.heap.size w w1) := (Below.refl _ _).grown hg1 (Nat.le_refl _) (fun k hk => by cases hk)
  have HR1 : Hid (w1.rowIs w.heap.size 3 ((n + 1) * 1) z1) := by unfold Hid; rw [Nat.mul_one]; exact hr1
  have HS1 : Hid (w1.heap.size = w.heap.size + 1) := hs1
  have HSRC : Hid (1 ≤ n → ∃ b off, ao = some ⟨b, off, none⟩ ∧ ∀ q, q < n * 1 → w1.cell? ⟨b, off + q, none⟩ = some (.int .i64 (Z q))) := fun h1 => by
    obtain ⟨b, off, e, hb, hz⟩ := HZ.out h1
    exact ⟨b, off, e, fun q hq => IntsAt.below hz hb HB1.out q (by omega)⟩
  clear hr1 hg1 hs1
  go_wp2_with (refine wpList_copy_is _ rfl _ _ 26 26 rfl 3 i0 1 Try.underlying26 hi0 hz1 w.heap.size _ _ _ _ _ rfl rfl 3 ((n + 1) * 1) z1 HR1.out (fun q => .int .i64 (Z q)) (by omega) (by omega) HSRC.out (fun q _ => rfl) ?_)
  intro w2 hr2 hg2 hs2
  have HR2 : Hid (w2.rowIs w.heap.size 3 (n + 1) (lenf Z n)) := hr2
  have HB2 : Hid (Below w.heap.size w w2) := HB1.out.grown hg2 (by rw [HS1.out]; omega) (fun k hk => by cases hk; exact Nat.le_refl _)
  clear hr2 hg2 hs2
  go_wp2
  go_ret
  exact ⟨rfl, HR2.out, HB2.out⟩

set_option maxRecDepth 100000 in
set_option maxHeartbeats 1000000 in
theorem sameInts_any (ao bo : Option Addr) (n c1 c2 : Nat) (X : Nat → Int) (w : World) (hn : n ≤ 9223372036854775806)
    (hA : 1 ≤ n → ∃ b off, ao = some ⟨b, off, none⟩ ∧ IntsAt w b off n X) (hB : 1 ≤ n → ∃ b off, bo = some ⟨b, off, none⟩ ∧ IntsAt w b off n X) :
    Calls Try.prog 37 #[.slice ao n c1, .slice bo n c2] w fun e w' => e = .returned (.bool true) ∧ ∃ m, w' = w.drewN m := by
  have hd : ((n : Int) != (n : Int)) = false := by simp
  by_cases h1 : 1 ≤ n
  · obtain ⟨ab, aof, rfl, hA2⟩ := hA h1
    obtain ⟨bb, bof, rfl, hB2⟩ := hB h1
    clear hA hB
    have HA2 : Hid (IntsAt w ab aof n X) := hA2
    have HB2 : Hid (IntsAt w bb bof n X) := hB2
    clear hA2 hB2
    go_enter Try.func37, Try.ntmps37
    go_wp2
    go_loopw [5] (fun iv wr => ∃ i m : Nat, i ≤ n ∧ iv = .int .i64 i ∧ wr = w.drewN m) (fun iv _ => n - (intOf iv).toNat)
    case atStart => exact ⟨0, 0, Nat.zero_le _, rfl, rfl⟩
    case round =>
      obtain ⟨i, m, hi, rfl, rfl⟩ := hrel
      by_cases hlt : i < n
      · have ca := HA2.out i hlt
        have cb := HB2.out i hlt
        go_wp2
        go_quiet (fail)
        go_wp2
        go_roundw
        case rel => exact ⟨i + 1, _, by omega, by go_num, rfl⟩
        case measure => simp [intOf]; omega
      · go_wp2
        go_ret
        exact ⟨rfl, m, rfl⟩
  · obtain rfl : n = 0 := by omega
    clear hA hB
    go_enter Try.func37, Try.ntmps37
    go_wp2
    refine wp_loop_rounds 1 ?_
    rw [rounds_succ]
    go_wp2
    go_ret
    exact ⟨rfl, 0, rfl⟩

set_option maxHeartbeats 1000000 in
theorem mark_any (Wb : Nat) (k : Int) (F : Nat → Value) (w : World) (h0 : -1000000 ≤ k) (h1 : k ≤ 1000000) (hF : F 8 = .int .i64 k) (hW : w.rowIs Wb 31 9 F) :
    Calls Try.prog 62 #[.pointer (some ⟨Wb, 0, none⟩)] w fun e w' => e = .returned (.int .i64 (k - 1 - 100)) ∧ w' = w.setCell ⟨Wb, 8, none⟩ (.int .i64 (k - 1)) := by
  have c8 : w.cell? ⟨Wb, 8, none⟩ = some (.int .i64 k) := (hW.cell (by omega)).trans (by rw [hF])
  have z8 : w.frozen? ⟨Wb, 8, none⟩ = false := hW.frozen 8
  clear hW hF
  go_enter Try.func62, Try.ntmps62
  go_wp2
  go_ret
  exact ⟨rfl, rfl⟩
end Go.Proofs.Ytdabcflpcklfiaa
