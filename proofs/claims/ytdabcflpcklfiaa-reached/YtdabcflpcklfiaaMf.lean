import Derived.Test.YtdabcflpcklfiaaMe
/- Who is ready, how he ranks, and who has the tick. -/
namespace Go.Proofs.Ytdabcflpcklfiaa
open Go.RowKit Cad

theorem ret_boolM {a b : Bool} (h : a = b) : Ending.returned (.bool a) = .returned (.bool b) := by rw [h]

set_option maxHeartbeats 1000000 in
theorem ready_any (S : Sy) (m : Mc) (Y : Lay) (t : Nat) (w : World) (ho : Ok S m) (ht : t < S.n) (h : MAt w S m Y) :
    Calls Try.prog 105 #[.pointer (some ⟨Y.mb, 0, none⟩), .int .i64 t] w fun e w' => e = .returned (.bool (readyB m t)) ∧ Below w.heap.size w w' := by
  have HF := first_any S m Y t w ho ht h
  rw [live_first ht] at HF
  match hq : m.q t with
  | [] =>
    rw [hq, if_pos rfl] at HF
    have HF' : Hid (Calls Try.prog 76 #[.pointer (some ⟨Y.mb, 0, none⟩), .int .i64 t] w fun e w' => e = .returned (.pointer none) ∧ Below w.heap.size w w') := HF
    have HR : Hid (readyB m t = false) := by unfold Hid readyB; rw [hq]
    clear HF h ho hq
    go_enter Try.func105, Try.ntmps105
    go_wp2_with fail
    refine (HF'.out).mono ?_
    rintro e w1 ⟨rfl, hb1⟩
    go_wp2_with fail
    go_region
    go_wp2
    go_ret
    exact ⟨ret_boolM HR.out.symm, hb1.drew⟩
  | j :: r =>
    rw [hq, if_neg (by simp)] at HF
    have HF' : Hid (Calls Try.prog 76 #[.pointer (some ⟨Y.mb, 0, none⟩), .int .i64 t] w fun e w' => e = .returned (.pointer (some ⟨Y.jb t (m.done t), 0, none⟩)) ∧ Below w.heap.size w w') := HF
    have HR : Hid (readyB m t = decide (j.rel ≤ m.now)) := by unfold Hid readyB; rw [hq]
    have hj := (h.jrow t ht 0 j (by rw [hq]; rfl)).1
    rw [Nat.add_zero] at hj
    have c2 : w.cell? ⟨Y.jb t (m.done t), 2, none⟩ = some (.int .i64 j.rel) := by rw [hj.cell (by omega)]; rfl
    have hjl := hj.lt
    have hml := h.mrow.lt
    obtain ⟨c0, c3, c20⟩ := h.mc
    clear HF h ho hq hj c3 c20
    go_enter Try.func105, Try.ntmps105
    go_wp2_with fail
    refine (HF'.out).mono ?_
    rintro e w1 ⟨rfl, hb1⟩
    have d2 := (hb1.cell (p := ⟨Y.jb t (m.done t), 2, none⟩) hjl).trans c2
    have d0 := (hb1.cell (p := ⟨Y.mb, 0, none⟩) hml).trans c0
    clear c2 c0
    go_wp2_with fail
    go_region
    go_wp2
    go_ret
    exact ⟨ret_boolM HR.out.symm, hb1.drew⟩

end Go.Proofs.Ytdabcflpcklfiaa
