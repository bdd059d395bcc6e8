import Derived.Test.YtdabcflpcklfiaaWd
import Derived.Test.YtdabcflpcklfiaaMath2
namespace Go.Proofs.Ytdabcflpcklfiaa
open Go.RowKit

/-- The cells of a list of numbers. -/
def IntsAt (w : World) (b off n : Nat) (Z : Nat → Int) : Prop := ∀ i, i < n → w.cell? ⟨b, off + i, none⟩ = some (.int .i64 (Z i))

theorem IntsAt.below {w w' : World} {b off n : Nat} {Z : Nat → Int} (h : IntsAt w b off n Z) (hb : b < w.heap.size) (hbel : Below w.heap.size w w') : IntsAt w' b off n Z :=
  fun i hi => (hbel.cell (by exact hb)).trans (h i hi)

theorem demTo_range {K N : Nat → Int} {len k : Nat} (h : Cad.progB K N len = true) (hk : k ≤ len) : 0 ≤ Cad.demTo K N k ∧ Cad.demTo K N k ≤ 1600 := by
  obtain ⟨_, _, _, I⟩ := Cad.progB_inv h
  have h1 := Cad.demTo_mono I.steps 0 k (by omega) hk
  have h2 := Cad.demTo_mono I.steps k len hk (Nat.le_refl _)
  have h3 := (Cad.dem_pos h).2
  have h0 : Cad.demTo K N 0 = 0 := rfl
  omega

set_option maxRecDepth 100000 in
set_option maxHeartbeats 400000 in
theorem demand_any (b off len cap : Nat) (K N : Nat → Int) (w : World) (hv : Cad.progB K N len = true) (hc : StepsAt w b off len K N) :
    Calls Try.prog 89 #[.slice (some ⟨b, off, none⟩) len cap] w fun e w' => e = .returned (.int .i64 (Cad.demTo K N len)) ∧ w' = w := by
  have HV : Hid _ := hv
  have h16 : len ≤ 16 := (Cad.progB_inv hv).2.1
  clear hv
  go_enter Try.func89, Try.ntmps89
  go_wp2
  go_loop [3, 4] (fun d i => ∃ k : Nat, k ≤ len ∧ i = .int .i64 k ∧ d = .int .i64 (Cad.demTo K N k)) (fun _ i => len - (intOf i).toNat)
  case atStart => exact ⟨0, Nat.zero_le _, rfl, rfl⟩
  case round =>
    obtain ⟨k, hk, rfl, rfl⟩ := hrel
    by_cases hlt : k < len
    · have hck := (hc k hlt).1
      have hcn := (hc k hlt).2
      have hr0 := demTo_range (k := k) HV.out hk
      have hr1 := demTo_range (k := k + 1) HV.out hlt
      have hs : Hid (Cad.demTo K N (k + 1) = Cad.demTo K N k + (if K k = 1 then N k else 0)) := rfl
      by_cases h1 : K k = 1
      · have hb : (K k == 1) = true := by simpa using h1
        have hs2 : Hid (Cad.demTo K N (k + 1) = Cad.demTo K N k + N k) := by have := hs.out; rw [if_pos h1] at this; exact this
        have hr2 : 0 ≤ Cad.demTo K N k + N k ∧ Cad.demTo K N k + N k ≤ 1600 := by rw [← hs2.out]; exact hr1
        clear h1 hr1
        go_wp2
        go_round
        case rel => exact ⟨k + 1, by omega, by go_num, by rw [hs2.out]⟩
        case measure => simp [intOf]; omega
      · have hb : (K k == 1) = false := by simpa using h1
        have hs2 : Hid (Cad.demTo K N (k + 1) = Cad.demTo K N k) := by have := hs.out; rw [if_neg h1] at this; show _ = _; omega
        clear h1 hr1
        go_wp2
        go_round
        case rel => exact ⟨k + 1, by omega, by go_num, by rw [hs2.out]⟩
        case measure => simp [intOf]; omega
    · obtain rfl : k = len := by omega
      go_wp2
      go_ret
      exact ⟨rfl, rfl⟩

set_option maxRecDepth 100000 in
set_option maxHeartbeats 1000000 in
theorem length_any (b off len cap k : Nat) (K N : Nat → Int) (w : World) (hv : Cad.progB K N len = true) (hk : k < len) (hc : StepsAt w b off len K N) :
    Calls Try.prog 114 #[.slice (some ⟨b, off, none⟩) len cap, .int .i64 k] w fun e w' => ∃ s m, e = .returned (.int .i64 s) ∧ Cad.IsLen K N len (N k) (k + 1) s ∧ w' = w.drewN m := by
  have HV : Hid _ := hv
  have h16 : len ≤ 16 := (Cad.progB_inv hv).2.1
  clear hv
  have hkn := (hc k hk).2
  go_enter Try.func114, Try.ntmps114
  go_wp2
  go_loopw [5, 6] (fun d i wr => ∃ j m : Nat, k + 1 ≤ j ∧ j ≤ len ∧ i = .int .i64 j ∧ d = .int .i64 (Cad.demTo K N j - Cad.demTo K N (k + 1)) ∧ (∀ t, k + 1 ≤ t → t < j → ¬ (K t = 3 ∧ N t = N k)) ∧ wr = w.drewN m) (fun _ i _ => len - (intOf i).toNat)
  case atStart => exact ⟨k + 1, 0, by omega, by omega, by go_num, by go_num, fun t h1 h2 => by omega, rfl⟩
  case round =>
    obtain ⟨j, m, hj1, hj, rfl, rfl, hno, rfl⟩ := hrel
    have HNO : Hid _ := hno
    clear hno
    have hrk := demTo_range (k := k + 1) HV.out hk
    by_cases hlt : j < len
    · have hcj := (hc j hlt).1
      have hcn := (hc j hlt).2
      have hr0 := demTo_range (k := j) HV.out hj
      have hr1 := demTo_range (k := j + 1) HV.out hlt
      have hs : Hid (Cad.demTo K N (j + 1) = Cad.demTo K N j + (if K j = 1 then N j else 0)) := rfl
      by_cases h3 : K j = 3
      · have b3 : (K j == 3) = true := by simpa using h3
        have b1 : (K j == 1) = false := by simp [h3]
        by_cases hn : N j = N k
        · have bn : (N j == N k) = true := by simpa using hn
          have FIN : Hid (Cad.IsLen K N len (N k) (k + 1) (Cad.demTo K N j - Cad.demTo K N (k + 1))) := .inl ⟨j, hj1, hlt, h3, hn, HNO.out, rfl⟩
          clear h3 hn hr1 b1
          go_wp2
          go_quiet (fail)
          go_wp2
          go_ret
          exact ⟨_, _, rfl, FIN.out, by rw [World.drewN_drewN]⟩
        · have bn : (N j == N k) = false := by simpa using hn
          have hs2 : Hid (Cad.demTo K N (j + 1) = Cad.demTo K N j) := by have := hs.out; rw [if_neg (by omega)] at this; show _ = _; omega
          have HN2 : Hid (¬ (K j = 3 ∧ N j = N k)) := fun e => hn e.2
          clear h3 hn hr1
          go_wp2
          go_quiet (fail)
          go_wp2
          go_roundw
          case rel => exact ⟨j + 1, _, by omega, by omega, by go_num, by rw [hs2.out], fun t h1 h2 => by
            by_cases e : t = j
            · subst e; exact HN2.out
            · exact HNO.out t h1 (by omega), rfl⟩
          case measure => simp [intOf]; omega
      · have b3 : (K j == 3) = false := by simpa using h3
        have HN2 : Hid (¬ (K j = 3 ∧ N j = N k)) := fun e => h3 e.1
        by_cases h1 : K j = 1
        · have b1 : (K j == 1) = true := by simpa using h1
          have hs2 : Hid (Cad.demTo K N (j + 1) = Cad.demTo K N j + N j) := by have := hs.out; rw [if_pos h1] at this; exact this
          have hr2 : 0 ≤ Cad.demTo K N j + N j ∧ Cad.demTo K N j + N j ≤ 1600 := by rw [← hs2.out]; exact hr1
          clear h3 h1 hr1
          go_wp2
          go_quiet (fail)
          go_wp2
          go_roundw
          case rel => exact ⟨j + 1, _, by omega, by omega, by go_num, by rw [hs2.out]; go_num, fun t h1 h2 => by
            by_cases e : t = j
            · subst e; exact HN2.out
            · exact HNO.out t h1 (by omega), rfl⟩
          case measure => simp [intOf]; omega
        · have b1 : (K j == 1) = false := by simpa using h1
          have hs2 : Hid (Cad.demTo K N (j + 1) = Cad.demTo K N j) := by have := hs.out; rw [if_neg h1] at this; show _ = _; omega
          clear h3 h1 hr1
          go_wp2
          go_quiet (fail)
          go_wp2
          go_roundw
          case rel => exact ⟨j + 1, _, by omega, by omega, by go_num, by rw [hs2.out], fun t h1 h2 => by
            by_cases e : t = j
            · subst e; exact HN2.out
            · exact HNO.out t h1 (by omega), rfl⟩
          case measure => simp [intOf]; omega
    · obtain rfl : j = len := by omega
      go_wp2
      go_ret
      exact ⟨_, _, rfl, .inr ⟨HNO.out, rfl⟩, rfl⟩
end Go.Proofs.Ytdabcflpcklfiaa
