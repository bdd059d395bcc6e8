import Derived.Test.YtdabcflpcklfiaaGreatK08
import Derived.Deep.Cut
/- Why a job is refused. -/
namespace Go.Proofs.YtdabcflpcklfiaaGreat
open Go.RowKit Cad

theorem ret_intM {a b : Int} (h : a = b) : Ending.returned (.int .i64 a) = .returned (.int .i64 b) := by rw [h]

def refuseN (A dn ls P J now jit : Int) (fits : Bool) : Int :=
  if 0 < A ∧ now - ls < P then 6 else if jit < 0 ∨ J < jit then 7 else if fits = false then 8 else if 8 ≤ A - dn then 9 else 0

set_option maxRecDepth 100000 in
set_option maxHeartbeats 1000000 in
theorem refusal_any (tp ta pb pc db dof d dc L : Nat) (K N D : Nat → Int) (ao : Option Addr) (A dn ls P J now jit : Int) (w : World) (hL : L ≤ 16) (hd : d ≤ 9223372036854775806) (htp : tp < w.heap.size) (hpb : pb < w.heap.size)
    (c0 : w.cell? ⟨tp, ta, none⟩ = some (.int .i64 P)) (c1 : w.cell? ⟨tp, ta + 1, none⟩ = some (.int .i64 J)) (hp : w.cell? ⟨tp, ta + 3, none⟩ = some (.slice (some ⟨pb, 0, none⟩) L pc))
    (c4 : w.cell? ⟨tp, ta + 4, none⟩ = some (.int .i64 A)) (c5 : w.cell? ⟨tp, ta + 5, none⟩ = some (.int .i64 dn)) (c6 : w.cell? ⟨tp, ta + 6, none⟩ = some (.int .i64 ls))
    (hA : 0 ≤ A ∧ A ≤ 2000000000000000000) (hdn : 0 ≤ dn ∧ dn ≤ A) (hls : 0 ≤ ls ∧ ls ≤ 2000000000000000000) (hnow : 0 ≤ now ∧ now ≤ 2000000000000000000)
    (hs : StepsIn w pb 0 K N L) (hD : 1 ≤ d → ao = some ⟨db, dof, none⟩ ∧ db < w.heap.size ∧ IntsIn w db dof d D) :
    Calls Tryz.prog 101 #[.pointer (some ⟨tp, ta, none⟩), .int .i64 now, .int .i64 jit, .slice ao d dc] w fun e w' => e = .returned (.int .i64 (refuseN A dn ls P J now jit ((fitsB K N L D d)))) ∧ Below w.heap.size w w' := by
  by_cases h1 : 0 < A ∧ now - ls < P
  · have HR : Hid (refuseN A dn ls P J now jit ((fitsB K N L D d)) = 6) := by unfold Hid refuseN; rw [if_pos h1]
    obtain ⟨h1a, h1b⟩ := h1
    have b1 : decide (0 < A) = true := by simp; omega
    have b2 : decide (now - ls < P) = true := by simp; omega
    clear hs hD
    go_enter Tryz.func101, Tryz.ntmps101
    go_wp2_with fail
    go_quiet (fail)
    go_wp2
    go_ret
    exact ⟨ret_intM HR.out.symm, below_drewM (Below.refl _ _) _⟩
  · -- behind the first test
    have HCD : Hid (∀ w1 : World, Below w.heap.size w w1 → Calls Tryz.prog 128 #[.pointer (some ⟨tp, ta, none⟩), .slice ao d dc] w1 fun e w' => e = .returned (.bool ((fitsB K N L D d))) ∧ Below w1.heap.size w1 w') := by
      intro w1 hb1
      have hsz := hb1.size
      exact demands_any tp pb pc db dof d dc L ta K N D ao _ w1 hL hd (by omega) (by omega) ((hb1.cell (p := ⟨tp, ta + 3, none⟩) htp).trans hp)
        (fun i hi => ⟨(hb1.cell (p := ⟨pb, _, none⟩) hpb).trans (hs i hi).1, (hb1.cell (p := ⟨pb, _, none⟩) hpb).trans (hs i hi).2⟩)
        (fun h => by
          obtain ⟨e, hdb, hi⟩ := hD h
          exact ⟨e, by omega, fun i hq => (hb1.cell (p := ⟨db, dof + i, none⟩) hdb).trans (hi i hq)⟩) rfl
    have HN1 : Hid (¬ (0 < A ∧ now - ls < P)) := h1
    clear hs hD hp
    have HG : Hid (∀ (w1 : World) , Below w.heap.size w w1 → w1.cell? ⟨tp, ta + 1, none⟩ = some (.int .i64 J) ∧ w1.cell? ⟨tp, ta + 4, none⟩ = some (.int .i64 A) ∧ w1.cell? ⟨tp, ta + 5, none⟩ = some (.int .i64 dn)) := fun w1 hb1 =>
      ⟨(hb1.cell (p := ⟨tp, ta + 1, none⟩) htp).trans c1, (hb1.cell (p := ⟨tp, ta + 4, none⟩) htp).trans c4, (hb1.cell (p := ⟨tp, ta + 5, none⟩) htp).trans c5⟩
    clear h1
    go_enter Tryz.func101, Tryz.ntmps101
    go_upto_region 1 with fail
    go_cut [9] from 10 (fun s9 wc => s9 = .bool false ∧ Below w.heap.size w wc)
    case first =>
      by_cases hA0 : 0 < A
      · have b1 : decide (0 < A) = true := by simp; omega
        have b2 : decide (now - ls < P) = false := by have := HN1.out; simp; omega
        go_quiet (fail)
        go_wp2_with fail
        go_meet
        case rel => exact ⟨rfl, below_drewM (Below.refl _ _) _⟩
      · have b1 : decide (0 < A) = false := by simp; omega
        go_quiet (fail)
        go_wp2_with fail
        go_meet
        case rel => exact ⟨rfl, below_drewM (Below.refl _ _) _⟩
    case rest =>
      obtain ⟨rfl, hbc⟩ := hcut
      obtain ⟨d1, d4, d5⟩ := HG.out wc hbc
      have HB : Hid (Below w.heap.size w wc) := hbc
      clear hbc c0 c1 c4 c5 c6
      by_cases h2 : jit < 0 ∨ J < jit
      · have HR : Hid (refuseN A dn ls P J now jit ((fitsB K N L D d)) = 7) := by unfold Hid refuseN; rw [if_neg HN1.out, if_pos h2]
        by_cases h3 : jit < 0
        · go_wp2
          go_ret
          exact ⟨ret_intM HR.out.symm, HB.out⟩
        · have h4 : J < jit := by omega
          clear h2
          go_wp2
          go_ret
          exact ⟨ret_intM HR.out.symm, HB.out⟩
      · have h3 : ¬ jit < 0 := by omega
        have h4 : ¬ J < jit := by omega
        have HN2 : Hid (¬ (jit < 0 ∨ J < jit)) := h2
        clear h2
        go_wp2_with fail
        refine (HCD.out wc HB.out).mono ?_
        rintro e w2 ⟨rfl, hb2⟩
        have hb2' : Below w.heap.size w w2 := HB.out.trans (hb2.mono HB.out.size)
        obtain ⟨e1, e4, e5⟩ := HG.out w2 hb2'
        have HB2 : Hid (Below w.heap.size w w2) := hb2'
        clear hb2 hb2' d1 d4 d5
        by_cases hf : Fits K N L D d
        · have hfd : (fitsB K N L D d) = true := by simpa using hf
          rw [hfd]
          by_cases h8 : 8 ≤ A - dn
          · have HR : Hid (refuseN A dn ls P J now jit true = 9) := by unfold Hid refuseN; rw [if_neg HN1.out, if_neg HN2.out, if_neg (by simp), if_pos h8]
            go_wp2_with fail
            go_quiet (fail)
            go_wp2
            go_ret
            exact ⟨ret_intM (by rw [show (fitsB K N L D d) = true by simpa using hf]; exact HR.out.symm), below_drewM HB2.out _⟩
          · have HR : Hid (refuseN A dn ls P J now jit true = 0) := by unfold Hid refuseN; rw [if_neg HN1.out, if_neg HN2.out, if_neg (by simp), if_neg h8]
            have b8 : decide (8 ≤ A - dn) = false := by simp; omega
            go_wp2_with fail
            go_quiet (fail)
            go_wp2
            go_ret
            exact ⟨ret_intM (by rw [show (fitsB K N L D d) = true by simpa using hf]; exact HR.out.symm), below_drewM HB2.out _⟩
        · have hfd : (fitsB K N L D d) = false := by simpa using hf
          rw [hfd]
          have HR : Hid (refuseN A dn ls P J now jit false = 8) := by unfold Hid refuseN; rw [if_neg HN1.out, if_neg HN2.out, if_pos rfl]
          go_wp2
          go_ret
          exact ⟨ret_intM (by rw [show (fitsB K N L D d) = false by simpa using hf]; exact HR.out.symm), HB2.out⟩
end Go.Proofs.YtdabcflpcklfiaaGreat
