import Derived.Test.YtdabcflpcklfiaaMq
/- Whether demands may be, and why a job is refused. -/
namespace Go.Proofs.Ytdabcflpcklfiaa
open Go.RowKit Cad

def IntsIn (w : World) (b off n : Nat) (D : Nat → Int) : Prop := ∀ i, i < n → w.cell? ⟨b, off + i, none⟩ = some (.int .i64 (D i))

theorem cmpTo_le (K : Nat → Int) : ∀ i, cmpTo K i ≤ i
  | 0 => Nat.le_refl _
  | i + 1 => by
    unfold cmpTo
    have := cmpTo_le K i
    split <;> omega

theorem StepRow.steps {w : World} {g cap : Nat} {K N : Nat → Int} {L : Nat} (h : StepRow w g cap K N L) : StepsIn w g 0 K N L := fun i hi => by
  rw [Nat.zero_add]
  exact ⟨h.at0 hi, h.at1 hi⟩

theorem below_drewM {B : Nat} {w w' : World} (h : Below B w w') (n : Nat) : Below B w (w'.drewN n) := ⟨h.os, h.tape, h.output, h.size, h.block⟩

set_option maxRecDepth 100000 in
set_option maxHeartbeats 1000000 in
theorem demands_any (tp pb pc db dof d dc L : Nat) (ta : Nat) (K N D : Nat → Int) (ao : Option Addr) (b : Bool) (w : World) (hL : L ≤ 16) (hd : d ≤ 9223372036854775806) (_htp : tp < w.heap.size) (hpb : pb < w.heap.size)
    (hp : w.cell? ⟨tp, ta + 3, none⟩ = some (.slice (some ⟨pb, 0, none⟩) L pc)) (hs : StepsIn w pb 0 K N L) (hD : 1 ≤ d → ao = some ⟨db, dof, none⟩ ∧ db < w.heap.size ∧ IntsIn w db dof d D) (hb : b = decide (Fits K N L D d)) :
    Calls Try.prog 112 #[.pointer (some ⟨tp, ta, none⟩), .slice ao d dc] w fun e w' => e = .returned (.bool b) ∧ Below w.heap.size w w' := by
  have HS : Hid (StepsIn w pb 0 K N L) := hs
  have HD : Hid (1 ≤ d → ao = some ⟨db, dof, none⟩ ∧ db < w.heap.size ∧ IntsIn w db dof d D) := hD
  have HBB : Hid (b = decide (Fits K N L D d)) := hb
  clear hs hD hb
  go_enter Try.func112, Try.ntmps112
  go_wp2
  clear hp
  go_loopw [5, 13] (fun c i wr => ∃ k : Nat, k ≤ L ∧ i = .int .i64 k ∧ c = .int .i64 (cmpTo K k) ∧ (∀ q, q < k → K q = 1 → cmpTo K q < d ∧ 1 ≤ D (cmpTo K q) ∧ D (cmpTo K q) ≤ N q) ∧ Below w.heap.size w wr) (fun _ i _ => L - (intOf i).toNat)
  case atStart => exact ⟨0, Nat.zero_le _, rfl, rfl, fun q hq => by omega, Below.refl _ _⟩
  case round =>
    obtain ⟨k, hk, rfl, rfl, hF, hbel⟩ := hrel
    have HF : Hid (∀ q, q < k → K q = 1 → cmpTo K q < d ∧ 1 ≤ D (cmpTo K q) ∧ D (cmpTo K q) ≤ N q) := hF
    have HB : Hid (Below w.heap.size w wr) := hbel
    have hsz := hbel.size
    have hcl := cmpTo_le K k
    clear hF
    by_cases hlt : k < L
    · have y0 : wr.cell? ⟨pb, k * 2, none⟩ = some (.int .i64 (K k)) := by
        have := (HS.out k hlt).1
        rw [Nat.zero_add] at this
        exact (hbel.cell (p := ⟨pb, k * 2, none⟩) hpb).trans this
      have y1 : wr.cell? ⟨pb, k * 2 + 1, none⟩ = some (.int .i64 (N k)) := by
        have := (HS.out k hlt).2
        rw [Nat.zero_add] at this
        exact (hbel.cell (p := ⟨pb, k * 2 + 1, none⟩) hpb).trans this
      clear hbel
      have hpw : pb < wr.heap.size := by omega
      by_cases h1 : K k = 1
      · have hE : Hid (cmpTo K (k + 1) = cmpTo K k + 1) := by unfold Hid; rw [cmpTo, if_pos h1]
        have hb1 : (K k != 1) = false := by simp [h1]
        by_cases hcd : cmpTo K k < d
        · obtain ⟨rfl, hdb, hdi⟩ := HD.out (by omega)
          have z := (HB.out.cell (p := ⟨db, dof + cmpTo K k, none⟩) hdb).trans (hdi (cmpTo K k) hcd)
          have hdw : db < wr.heap.size := by omega
          have bc1 : decide (d ≤ cmpTo K k) = false := by simp; omega
          have bc2 : ¬ d ≤ cmpTo K k := by omega
          have bci : (cmpTo K k : Int) < (d : Int) := by omega
          by_cases h2 : D (cmpTo K k) < 1
          · have bd2 : decide (D (cmpTo K k) < 1) = true := by simp; omega
            have hno : Hid (b = false) := by
              unfold Hid
              rw [HBB.out]
              simp only [decide_eq_false_iff_not]
              exact fun hf => by have := (hf.1 k hlt h1).2.1; omega
            go_wp2_with fail
            go_quiet (fail)
            go_wp2
            go_ret
            exact ⟨ret_boolM hno.out.symm, below_drewM (HB.out.alloc hsz _) _⟩
          · have bd2 : decide (D (cmpTo K k) < 1) = false := by simp; omega
            by_cases h3 : N k < D (cmpTo K k)
            · have hno : Hid (b = false) := by
                unfold Hid
                rw [HBB.out]
                simp only [decide_eq_false_iff_not]
                exact fun hf => by have := (hf.1 k hlt h1).2.2; omega
              go_wp2_with fail
              go_quiet (fail)
              go_wp2
              go_ret
              exact ⟨ret_boolM hno.out.symm, below_drewM (HB.out.alloc hsz _) _⟩
            · have bd3 : decide (N k < D (cmpTo K k)) = false := by simp; omega
              have HF2 : Hid (∀ q, q < k + 1 → K q = 1 → cmpTo K q < d ∧ 1 ≤ D (cmpTo K q) ∧ D (cmpTo K q) ≤ N q) := fun q hq hkq => by
                by_cases e : q = k
                · subst e; exact ⟨hcd, by omega, by omega⟩
                · exact HF.out q (by omega) hkq
              go_wp2_with fail
              go_quiet (fail)
              go_wp2
              go_roundw
              case rel => exact ⟨k + 1, by omega, by go_num, by rw [hE.out]; go_num, HF2.out, below_drewM (HB.out.alloc hsz _) _⟩
              case measure => simp [intOf]; omega
        · have bc1 : d ≤ cmpTo K k := by omega
          have bc2 : decide (d ≤ cmpTo K k) = true := by simp; omega
          have hno : Hid (b = false) := by
            unfold Hid
            rw [HBB.out]
            simp only [decide_eq_false_iff_not]
            exact fun hf => by have := (hf.1 k hlt h1).1; omega
          go_wp2_with fail
          go_quiet (fail)
          go_wp2
          go_ret
          exact ⟨ret_boolM hno.out.symm, below_drewM (HB.out.alloc hsz _) _⟩
      · have hE : Hid (cmpTo K (k + 1) = cmpTo K k) := by unfold Hid; rw [cmpTo, if_neg h1]
        have hb1 : (K k != 1) = true := by simp [h1]
        have HF2 : Hid (∀ q, q < k + 1 → K q = 1 → cmpTo K q < d ∧ 1 ≤ D (cmpTo K q) ∧ D (cmpTo K q) ≤ N q) := fun q hq hkq => by
          by_cases e : q = k
          · subst e; exact absurd hkq h1
          · exact HF.out q (by omega) hkq
        go_wp2
        go_roundw
        case rel => exact ⟨k + 1, by omega, by go_num, by rw [hE.out], HF2.out, HB.out.alloc hsz _⟩
        case measure => simp [intOf]; omega
    · obtain rfl : k = L := by omega
      by_cases hcd : cmpTo K k = d
      · have hyes : Hid (b = true) := by
          unfold Hid
          rw [HBB.out, decide_eq_true_iff]
          exact ⟨HF.out, hcd⟩
        have hbd : ((cmpTo K k : Int) == (d : Int)) = true := by simp; omega
        go_wp2
        go_ret
        exact ⟨ret_boolM hyes.out.symm, HB.out⟩
      · have hno : Hid (b = false) := by
          unfold Hid
          rw [HBB.out]
          simp only [decide_eq_false_iff_not]
          exact fun hf => hcd hf.2
        have hbd : ((cmpTo K k : Int) == (d : Int)) = false := by simp; omega
        go_wp2
        go_ret
        exact ⟨ret_boolM hno.out.symm, HB.out⟩
end Go.Proofs.Ytdabcflpcklfiaa
