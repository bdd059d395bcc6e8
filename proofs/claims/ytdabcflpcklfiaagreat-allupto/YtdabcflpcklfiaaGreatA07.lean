import Derived.Test.YtdabcflpcklfiaaGreatA06
import Derived.Deep.Cut
/- A new job. -/
namespace Go.Proofs.YtdabcflpcklfiaaGreat
open Go.RowKit Cad

theorem num_range {K N D : Nat → Int} {L d : Nat} (hf : Fits K N L D d) (hN : ∀ i, i < L → K i = 1 → N i ≤ 100) {k : Nat} (hk : k ≤ L) : 0 ≤ demTo K (numOf K N D) k ∧ demTo K (numOf K N D) k ≤ 100 * k := by
  have := dem_diff (K := K) (N := numOf K N D) (a := 0) k (fun i _ hi h1 => by
    have h := hf.1 i (by omega) h1
    have h2 := hN i (by omega) h1
    unfold numOf
    rw [if_pos h1]
    omega)
  simpa [demTo] using this

/-- The numbers, as far as step k. -/
def numTo (K N D : Nat → Int) (k i : Nat) : Int := if i < k then numOf K N D i else N i

theorem StepRow.congr {w : World} {g cap : Nat} {K N N' : Nat → Int} {L : Nat} (h : StepRow w g cap K N L) (e : ∀ i, i < L → N i = N' i) : StepRow w g cap K N' L := by
  obtain ⟨h1, f, h2, h3⟩ := h
  exact ⟨h1, f, h2, fun i hi => ⟨(h3 i hi).1, by rw [← e i hi]; exact (h3 i hi).2⟩⟩

set_option maxRecDepth 100000 in
set_option maxHeartbeats 2000000 in
theorem newJob_any (S : Sy) (m : Mc) (Y : Lay) (t : Nat) (jit : Int) (db dof d dc : Nat) (D : Nat → Int) (ao : Option Addr) (w : World) (ho : Ok S m) (ht : t < S.n) (h : MAt w S m Y) (hj0 : 0 ≤ jit) (hj1 : jit ≤ 10000) (hd : d ≤ 9223372036854775806)
    (hf : Fits (S.K t) (S.N t) (S.L t) D d) (hD : 1 ≤ d → ao = some ⟨db, dof, none⟩ ∧ db < w.heap.size ∧ IntsIn w db dof d D) :
    Calls Tryz.prog 102 #[.pointer (some ⟨Y.mb, 0, none⟩), .int .i64 t, .int .i64 jit, .slice ao d dc] w fun e w' => ∃ jb rb rc, e = .returned (.pointer (some ⟨jb, 0, none⟩)) ∧ w.heap.size ≤ jb ∧ w.heap.size ≤ rb ∧
      w'.rowIs jb 160 7 (jcell t (jobOf S m t jit D) (-1) (restV rb rc (S.L t) 0)) ∧ StepRow w' rb rc (S.K t) (numOf (S.K t) (S.N t) D) (S.L t) ∧ Below w.heap.size w w' := by
  obtain ⟨c0, c3, c20⟩ := h.mc
  have c2 : w.cell? ⟨Y.mb, 2, none⟩ = some (.int .i64 m.arrd) := by rw [h.mrow.cell (by omega)]; rfl
  have cp := h.tc ht (c := 3) (by omega)
  change w.cell? _ = some (.slice (some ⟨Y.pb t, 0, none⟩) (S.L t) (Y.pc t)) at cp
  have hlen := ho.len t ht
  have h8 := ho.eight
  have n0 := ho.now0
  have n1 := ho.now1
  have hmb := h.mrow.lt
  have hpl := (h.prow t ht).lt
  have HN : Hid (∀ i, i < S.L t → S.K t i = 1 → S.N t i ≤ 100) := fun i hi h1 => ((ho.steps t ht).2.2.2.2.2 i hi h1).2
  have HF : Hid (Fits (S.K t) (S.N t) (S.L t) D d) := hf
  have HD : Hid (1 ≤ d → ao = some ⟨db, dof, none⟩ ∧ db < w.heap.size ∧ IntsIn w db dof d D) := hD
  have HCL : Hid (Calls Tryz.prog 71 #[.slice (some ⟨Y.pb t, 0, none⟩) (S.L t) (Y.pc t)] w fun e w' => ∃ b c, e = .returned (.slice (some ⟨b, 0, none⟩) (S.L t) c) ∧ w.heap.size ≤ b ∧ StepRow w' b c (S.K t) (S.N t) (S.L t) ∧ Below w.heap.size w w') := clone_any (Y.pb t) 0 (S.L t) (Y.pc t) (S.K t) (S.N t) w hlen.1 hlen.2 hpl (h.prow t ht).steps
  clear h ho hf hD c20
  go_enter Tryz.func102, Tryz.ntmps102
  go_wp2_with fail
  refine (HCL.out).mono ?_
  rintro e w1 ⟨rb, rc, rfl, hrb, hsr, hb1⟩
  have HSR : Hid (StepRow w1 rb rc (S.K t) (numTo (S.K t) (S.N t) D 0) (S.L t)) := hsr.congr (fun i hi => by unfold numTo; rw [if_neg (by omega)])
  have HB1 : Hid (Below w.heap.size w w1) := hb1
  have hs1 := hb1.size
  clear hsr hb1 HCL c3 cp
  go_wp2
  go_loopw [10, 11, 25] (fun l c i wr => ∃ k : Nat, k ≤ S.L t ∧ i = .int .i64 k ∧ c = .int .i64 (cmpTo (S.K t) k) ∧ l = .int .i64 (demTo (S.K t) (numOf (S.K t) (S.N t) D) k) ∧ StepRow wr rb rc (S.K t) (numTo (S.K t) (S.N t) D k) (S.L t) ∧ Below w.heap.size w wr) (fun _ _ i _ => S.L t - (intOf i).toNat)
  case atStart => exact ⟨0, Nat.zero_le _, rfl, rfl, rfl, HSR.out, HB1.out⟩
  case round =>
    obtain ⟨k, hk, rfl, rfl, rfl, hsr, hbel⟩ := hrel
    have hsz := hbel.size
    have hcl := cmpTo_le (S.K t) k
    have hnr := num_range HF.out HN.out hk
    have HB : Hid (Below w.heap.size w wr) := hbel
    have HS : Hid (StepRow wr rb rc (S.K t) (numTo (S.K t) (S.N t) D k) (S.L t)) := hsr
    have hrl := hsr.lt
    by_cases hlt : k < S.L t
    · have y0 := hsr.at0 hlt
      have y1 := hsr.at1 hlt
      have z1 := hsr.frozen (k * 2 + 1)
      clear hsr
      by_cases h1 : S.K t k = 1
      · have hb1 : (S.K t k == 1) = true := by simpa using h1
        have hfk := HF.out.1 k hlt h1
        obtain ⟨rfl, hdb, hdi⟩ := HD.out (by omega)
        have dz := (hbel.cell (p := ⟨db, dof + cmpTo (S.K t) k, none⟩) hdb).trans (hdi _ hfk.1)
        have hnk := HN.out k hlt h1
        have hne : db ≠ rb := by omega
        have hnum : numOf (S.K t) (S.N t) D k = D (cmpTo (S.K t) k) := by unfold numOf; rw [if_pos h1]
        have HE1 : Hid (cmpTo (S.K t) (k + 1) = cmpTo (S.K t) k + 1) := by unfold Hid; rw [cmpTo, if_pos h1]
        have HE2 : Hid (demTo (S.K t) (numOf (S.K t) (S.N t) D) (k + 1) = demTo (S.K t) (numOf (S.K t) (S.N t) D) k + D (cmpTo (S.K t) k)) := by unfold Hid; rw [demTo, if_pos h1, hnum]
        have HS2 : Hid (StepRow (wr.setCell ⟨rb, k * 2 + 1, none⟩ (.int .i64 (D (cmpTo (S.K t) k)))) rb rc (S.K t) (numTo (S.K t) (S.N t) D (k + 1)) (S.L t)) := (HS.out.set k (D (cmpTo (S.K t) k))).congr (fun i hi => by
          unfold upd numTo
          by_cases e : i = k
          · rw [if_pos e, if_pos (by omega), e, hnum]
          · rw [if_neg e]
            by_cases c : i < k
            · rw [if_pos c, if_pos (by omega)]
            · rw [if_neg c, if_neg (by omega)])
        have HB2 : Hid (Below w.heap.size w (wr.setCell ⟨rb, k * 2 + 1, none⟩ (.int .i64 (D (cmpTo (S.K t) k))))) := hbel.setCell hrb _
        clear hbel hnum
        have hdw : db < wr.heap.size := by omega
        go_wp2
        go_roundw
        case rel => exact ⟨k + 1, by omega, by go_num, by rw [HE1.out]; go_num, by rw [HE2.out], HS2.out, HB2.out⟩
        case measure => simp [intOf]; omega
      · have hb1 : (S.K t k == 1) = false := by simpa using h1
        have HE1 : Hid (cmpTo (S.K t) (k + 1) = cmpTo (S.K t) k) := by unfold Hid; rw [cmpTo, if_neg h1]
        have HE2 : Hid (demTo (S.K t) (numOf (S.K t) (S.N t) D) (k + 1) = demTo (S.K t) (numOf (S.K t) (S.N t) D) k) := by unfold Hid; rw [demTo, if_neg h1, Int.add_zero]
        have HS2 : Hid (StepRow wr rb rc (S.K t) (numTo (S.K t) (S.N t) D (k + 1)) (S.L t)) := HS.out.congr (fun i hi => by
          unfold numTo
          by_cases e : i = k
          · rw [if_neg (by omega), if_pos (by omega), e]; unfold numOf; rw [if_neg h1]
          · by_cases c : i < k
            · rw [if_pos c, if_pos (by omega)]
            · rw [if_neg c, if_neg (by omega)])
        clear hbel
        go_wp2
        go_roundw
        case rel => exact ⟨k + 1, by omega, by go_num, by rw [HE1.out], by rw [HE2.out], HS2.out, HB.out⟩
        case measure => simp [intOf]; omega
    · obtain rfl : k = S.L t := by omega
      have d0 := (hbel.cell (p := ⟨Y.mb, 0, none⟩) hmb).trans c0
      have d2 := (hbel.cell (p := ⟨Y.mb, 2, none⟩) hmb).trans c2
      have HSF : Hid (StepRow wr rb rc (S.K t) (numOf (S.K t) (S.N t) D) (S.L t)) := hsr.congr (fun i hi => by unfold numTo; rw [if_pos hi])
      clear hbel hsr c0 c2
      have hmw : Y.mb < wr.heap.size := by omega
      go_wp2_with fail
      go_region
      go_wp2_with fail
      go_region
      go_wp2
      go_ret
      refine ⟨wr.heap.size + 1, rb, rc, ?_, by omega, hrb, ?_, ?_, ?_⟩
      · simp
      · have := World.rowIs_alloc (wr.alloc (.cells #[.int .i64 t, .int .i64 m.now, .int .i64 (m.now + jit), .int .i64 (-1), .int .i64 (demTo (S.K t) (numOf (S.K t) (S.N t) D) (S.L t))] 93)) #[.int .i64 t, .int .i64 m.now, .int .i64 (m.now + jit), .int .i64 (-1), .int .i64 (demTo (S.K t) (numOf (S.K t) (S.N t) D) (S.L t)), .int .i64 m.arrd, .slice (some ⟨rb, 0, none⟩) (S.L t) rc] 160 (jcell t (jobOf S m t jit D) (-1) (restV rb rc (S.L t) 0)) (fun i hi => by
          have hi' : i < 7 := hi
          match i, hi' with
          | 0, _ => rfl
          | 1, _ => rfl
          | 2, _ => rfl
          | 3, _ => rfl
          | 4, _ => rfl
          | 5, _ => rfl
          | 6, _ => rfl)
        simp only [World.size_alloc] at this
        exact this.drew.drew
      · exact HSF.out.of_block ((Deep.blk_alloc_lt _ _ _ (by simp; omega)).trans (Deep.blk_alloc_lt _ _ _ hrl))
      · exact ((HB.out.alloc hsz _).alloc (by simp; omega) _).drew.drew
end Go.Proofs.YtdabcflpcklfiaaGreat
