import Derived.Test.YtdabcflpcklfiaaMf
/- How a task ranks, and who has the tick. -/
namespace Go.Proofs.Ytdabcflpcklfiaa
open Go.RowKit Cad

theorem index118 (l : Nat → Int) (k : Nat) (hk : k < 8) (w : World) : (Instr.index 124 (.agg #[.int .i64 (l 0), .int .i64 (l 1), .int .i64 (l 2), .int .i64 (l 3), .int .i64 (l 4), .int .i64 (l 5), .int .i64 (l 6), .int .i64 (l 7)]) (.int .i64 (k : Int))).run Try.prog w = .ok (.int .i64 (l k)) w :=
  match k, hk with
  | 0, _ => by kernel_rfl
  | 1, _ => by kernel_rfl
  | 2, _ => by kernel_rfl
  | 3, _ => by kernel_rfl
  | 4, _ => by kernel_rfl
  | 5, _ => by kernel_rfl
  | 6, _ => by kernel_rfl
  | 7, _ => by kernel_rfl

theorem max_ifM (a b : Int) : (if a < b then b else a) = max a b := by
  by_cases h : a < b
  · rw [if_pos h, Int.max_eq_right (by omega)]
  · rw [if_neg h, Int.max_eq_left (by omega)]

theorem MAt.hc {w : World} {S : Sy} {m : Mc} {Y : Lay} (h : MAt w S m Y) {r : Nat} (hr : r < 8) : w.cell? ⟨Y.mb, 12 + r, none⟩ = some (.int .i64 (m.hold r)) := by
  rw [h.mrow.cell (by omega)]
  unfold mcell
  rw [if_neg (by omega), if_neg (by omega), if_neg (by omega), if_neg (by omega), if_neg (by omega), if_pos (by omega), show 12 + r - 12 = r from by omega]
theorem MAt.cc {w : World} {S : Sy} {m : Mc} {Y : Lay} (h : MAt w S m Y) {r : Nat} (hr : r < 8) : w.cell? ⟨Y.mb, 4 + r, none⟩ = some (.int .i64 (S.C r)) := by
  rw [h.mrow.cell (by omega)]
  unfold mcell
  rw [if_neg (by omega), if_neg (by omega), if_neg (by omega), if_neg (by omega), if_pos (by omega), show 4 + r - 4 = r from by omega]

set_option maxRecDepth 100000 in
set_option maxHeartbeats 2000000 in
theorem rank_any (S : Sy) (m : Mc) (Y : Lay) (t : Nat) (w : World) (ho : Ok S m) (ht : t < S.n) (h : MAt w S m Y) :
    Calls Try.prog 106 #[.pointer (some ⟨Y.mb, 0, none⟩), .int .i64 t] w fun e w' => e = .returned (.int .i64 (rank S m.hold t)) ∧ w' = w := by
  obtain ⟨c0, c3, c20⟩ := h.mc
  have c5 := h.tc ht (c := 2) (by omega)
  change w.cell? _ = some (.int .i64 (S.Z t)) at c5
  have h8 := ho.eight
  have e0 := h.hc (r := 0) (by omega)
  have e1 := h.hc (r := 1) (by omega)
  have e2 := h.hc (r := 2) (by omega)
  have e3 := h.hc (r := 3) (by omega)
  have e4 := h.hc (r := 4) (by omega)
  have e5 := h.hc (r := 5) (by omega)
  have e6 := h.hc (r := 6) (by omega)
  have e7 := h.hc (r := 7) (by omega)
  have HC : Hid (∀ r, r < 8 → w.cell? ⟨Y.mb, 4 + r, none⟩ = some (.int .i64 (S.C r))) := fun r hr => h.cc hr
  have HA : Hid (∀ r, r ≤ 8 → 0 ≤ (actTo S m.hold t r).1 ∧ (actTo S m.hold t r).1 < 8 ∧ 0 ≤ (actTo S m.hold t r).2 ∧ (actTo S m.hold t r).2 ≤ 1) := actTo_range (ho.prio t ht) ho.ceil
  clear h ho c0 c20
  go_enter Try.func106, Try.ntmps106
  go_wp2
  clear e0 e1 e2 e3 e4 e5 e6 e7 c3 c5
  go_loop [5, 6, 21] (fun a b i => ∃ r : Nat, r ≤ 8 ∧ i = .int .i64 r ∧ a = .int .i64 (actTo S m.hold t r).1 ∧ b = .int .i64 (actTo S m.hold t r).2) (fun _ _ i => 8 - (intOf i).toNat)
  case atStart => exact ⟨0, by omega, rfl, rfl, rfl⟩
  case round =>
    obtain ⟨r, hr, rfl, rfl, rfl⟩ := hrel
    by_cases hlt : r < 8
    · have hix := index118 m.hold r hlt w
      have hcc := HC.out r hlt
      have hra := HA.out r (by omega)
      by_cases hh : m.hold r = t
      · have hE : Hid (actTo S m.hold t (r + 1) = (max (actTo S m.hold t r).1 (S.C r), 1)) := by unfold Hid; rw [actTo, if_pos hh]
        go_wp2
        all_goals
          go_round
          case rel => exact ⟨r + 1, by omega, by go_num, by rw [hE.out]; simp [max_ifM], by rw [hE.out]⟩
          case measure => simp [intOf]; omega
      · have hE : Hid (actTo S m.hold t (r + 1) = actTo S m.hold t r) := by unfold Hid; rw [actTo, if_neg hh]
        have hhb : (m.hold r == (t : Int)) = false := by simpa using hh
        go_wp2
        go_round
        case rel => exact ⟨r + 1, by omega, by go_num, by rw [hE.out], by rw [hE.out]⟩
        case measure => simp [intOf]; omega
    · obtain rfl : r = 8 := by omega
      have hra := HA.out 8 (by omega)
      go_wp2
      go_ret
      exact ⟨rfl, rfl⟩
end Go.Proofs.Ytdabcflpcklfiaa
