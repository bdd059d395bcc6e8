import Derived.Test.YtdabcflpcklfiaaNe
/- Whether all bounds are above 0; whether anybody locks. -/
namespace Go.Proofs.Ytdabcflpcklfiaa
open Go.RowKit Cad

set_option maxHeartbeats 1000000 in
theorem accepted_any (g n cap : Nat) (R : Nat → Int) (b : Bool) (w : World) (hn : n ≤ 8) (h : w.rowIs g 3 n (fun q => .int .i64 (R q))) (hb : b = decide (∀ i, i < n → 0 < R i)) :
    Calls Try.prog 17 #[.slice (some ⟨g, 0, none⟩) n cap] w fun e w' => e = .returned (.bool b) ∧ Below w.heap.size w w' := by
  have HR : Hid (w.rowIs g 3 n (fun q => .int .i64 (R q))) := h
  have HBB : Hid (b = decide (∀ i, i < n → 0 < R i)) := hb
  have hgl := h.lt
  clear h hb
  go_enter Try.func17, Try.ntmps17
  go_wp2
  go_loopw [3] (fun iv wr => ∃ k : Nat, k ≤ n ∧ iv = .int .i64 k ∧ (∀ i, i < k → 0 < R i) ∧ Below w.heap.size w wr) (fun iv _ => n - (intOf iv).toNat)
  case atStart => exact ⟨0, Nat.zero_le _, rfl, fun i hi => by omega, Below.refl _ _⟩
  case round =>
    obtain ⟨k, hk, rfl, hF, hbel⟩ := hrel
    have HF : Hid (∀ i, i < k → 0 < R i) := hF
    have HB : Hid (Below w.heap.size w wr) := hbel
    have hsz := hbel.size
    clear hF
    by_cases hlt : k < n
    · have y0 : wr.cell? ⟨g, k, none⟩ = some (.int .i64 (R k)) := (hbel.cell (p := ⟨g, k, none⟩) hgl).trans (HR.out.cell hlt)
      clear hbel
      by_cases h1 : R k ≤ 0
      · have bd : decide (R k ≤ 0) = true := by simpa using h1
        have hno : Hid (b = false) := by
          unfold Hid
          rw [HBB.out]
          simp only [decide_eq_false_iff_not]
          exact fun hf => by have := hf k hlt; omega
        go_wp2
        go_ret
        exact ⟨ret_boolM hno.out.symm, HB.out⟩
      · have bd : decide (R k ≤ 0) = false := by simpa using h1
        have HF2 : Hid (∀ i, i < k + 1 → 0 < R i) := fun i hi => by
          by_cases e : i = k
          · subst e; omega
          · exact HF.out i (by omega)
        go_wp2
        go_roundw
        case rel => exact ⟨k + 1, by omega, by go_num, HF2.out, HB.out⟩
        case measure => simp [intOf]; omega
    · have hyes : Hid (b = true) := by
        unfold Hid
        rw [HBB.out]
        simp only [decide_eq_true_eq]
        exact fun i hi => HF.out i (by omega)
      clear hbel
      go_wp2
      go_ret
      exact ⟨ret_boolM hyes.out.symm, HB.out⟩

set_option maxRecDepth 100000 in
set_option maxHeartbeats 1000000 in
theorem locks_any (b off n cap : Nat) (T : TD) (v : Bool) (w : World) (hG : Good T n) (hb : b < w.heap.size) (hT : TasksAt w b off n T) (hv : v = decide (∃ i, i < n ∧ ∃ k, k < T.L i ∧ T.K i k = 2)) :
    Calls Try.prog 28 #[.slice (some ⟨b, off, none⟩) n cap] w fun e w' => e = .returned (.bool v) ∧ Below w.heap.size w w' := by
  have HT : Hid (TasksAt w b off n T) := hT
  have HG : Hid (Good T n) := hG
  have HV : Hid (v = decide (∃ i, i < n ∧ ∃ k, k < T.L i ∧ T.K i k = 2)) := hv
  have h8 := hG.eight
  clear hT hG hv
  go_enter Try.func28, Try.ntmps28
  go_wp2
  go_loopw [3] (fun iv wr => ∃ i : Nat, i ≤ n ∧ iv = .int .i64 i ∧ (∀ j, j < i → ∀ k, k < T.L j → T.K j k ≠ 2) ∧ Below w.heap.size w wr) (fun iv _ => n - (intOf iv).toNat)
  case atStart => exact ⟨0, Nat.zero_le _, rfl, fun i hi => by omega, Below.refl _ _⟩
  case round =>
    obtain ⟨i, hi, rfl, hF, hbel⟩ := hrel
    have HF : Hid (∀ j, j < i → ∀ k, k < T.L j → T.K j k ≠ 2) := hF
    have HB : Hid (Below w.heap.size w wr) := hbel
    clear hF hbel
    by_cases hlt : i < n
    · go_wp2_with fail
      go_loopw [4] (fun kv wr => ∃ k : Nat, k ≤ T.L i ∧ kv = .int .i64 k ∧ (∀ q, q < k → T.K i q ≠ 2) ∧ Below w.heap.size w wr) (fun kv _ => T.L i - (intOf kv).toNat)
      case atStart => exact ⟨0, Nat.zero_le _, rfl, fun i hi => by omega, HB.out⟩
      case round =>
        obtain ⟨k, hk, rfl, hF2, hbel2⟩ := hrel
        have HF2 : Hid (∀ q, q < k → T.K i q ≠ 2) := hF2
        have HB2 : Hid (Below w.heap.size w wr) := hbel2
        clear hF2 hbel2 HB
        obtain ⟨_, _, _, t3, tp⟩ := TasksAt.below HT.out hb HB2.out i hlt
        have hL := (progB_inv (HG.out.prog i hlt)).2.1
        obtain ⟨pb, po, hA, hpb, hst⟩ := tp.2 (progB_inv (HG.out.prog i hlt)).1
        have HST : Hid (StepsAt wr pb po (T.L i) (T.K i) (T.N i)) := hst
        rw [hA] at t3
        have hbw : b < wr.heap.size := by have := HB2.out.size; omega
        clear tp hst
        by_cases hkl : k < T.L i
        · have y0 := (HST.out k hkl).1
          by_cases h2 : T.K i k = 2
          · have bd : (T.K i k == 2) = true := by simp [h2]
            have hyes : Hid (v = true) := by
              unfold Hid
              rw [HV.out]
              simp only [decide_eq_true_eq]
              exact ⟨i, hlt, k, hkl, h2⟩
            go_wp2
            go_ret
            exact ⟨ret_boolM hyes.out.symm, HB2.out⟩
          · have bd : (T.K i k == 2) = false := by simp [h2]
            have HF3 : Hid (∀ q, q < k + 1 → T.K i q ≠ 2) := fun q hq => by
              by_cases e : q = k
              · subst e; exact h2
              · exact HF2.out q (by omega)
            go_wp2
            go_roundw
            case rel => exact ⟨k + 1, by omega, by go_num, HF3.out, HB2.out⟩
            case measure => simp [intOf]; omega
        · have HF3 : Hid (∀ j, j < i + 1 → ∀ k, k < T.L j → T.K j k ≠ 2) := fun j hj q hq => by
            by_cases e : j = i
            · subst e; exact HF2.out q (by omega)
            · exact HF.out j (by omega) q hq
          go_wp2
          go_roundw
          case rel => exact ⟨i + 1, by omega, by go_num, HF3.out, HB2.out⟩
          case measure => simp [intOf]; omega
    · have hno : Hid (v = false) := by
        unfold Hid
        rw [HV.out]
        simp only [decide_eq_false_iff_not]
        rintro ⟨j, hj, k, hk, h2⟩
        exact HF.out j (by omega) k hk h2
      go_wp2
      go_ret
      exact ⟨ret_boolM hno.out.symm, HB.out⟩

end Go.Proofs.Ytdabcflpcklfiaa
