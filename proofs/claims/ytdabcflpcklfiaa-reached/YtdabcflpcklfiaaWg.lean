import Derived.Test.YtdabcflpcklfiaaWf
namespace Go.Proofs.Ytdabcflpcklfiaa
open Go.RowKit

set_option maxRecDepth 100000 in
set_option maxHeartbeats 1000000 in
theorem returned_none (ao : Option Addr) (cap B0 Lb Wb ba b2 ns nt : Nat) (T : TD) (S : Nat → Nat) (v vs vt : Value) (F : Nat → Value) (xs ys : List Value) (w : World)
    (hf : RetFix B0 0 Lb Wb b2 ns nt T S v) (hi : RI B0 0 0 Lb Wb ba b2 ns nt T S v vs vt F (lf T S 0) (Gk T 0 0) xs ys w w) :
    Calls Try.prog 34 #[.pointer (some ⟨Wb, 0, none⟩), .slice (some ⟨Lb, 0, none⟩) (0 + 1) (0 + 1), v, .slice ao 0 cap] w fun e w' => e = .returned (.bool true) ∧
      ∃ vs' vt', RI B0 0 0 Lb Wb ba b2 ns (nt + 1) T S v vs' vt' F nz (fun _ => neg7) xs (ys ++ [.slice (some ⟨Lb, 0, none⟩) (0 + 1) (0 + 1)]) w w' := by
  obtain ⟨i2, hi2, hz20, hz21, hz22⟩ := info_parts Try.info22
  have HI : Hid _ := hi
  have HF : Hid _ := hf
  have l0 : w.cell? ⟨Lb, 0, none⟩ = some (.int .i64 0) := (hi.lrow.cell (by omega)).trans (by rfl)
  have l1 : w.cell? ⟨Lb, 1, none⟩ = some (.int .i64 0) := (hi.lrow.cell (by omega)).trans (by rfl)
  have l2 : w.cell? ⟨Lb, 2, none⟩ = some (.int .i64 0) := (hi.lrow.cell (by omega)).trans (by rfl)
  have l3 : w.cell? ⟨Lb, 3, none⟩ = some (.slice none 0 0) := (hi.lrow.cell (by omega)).trans (by rfl)
  have lz : ∀ q, w.frozen? ⟨Lb, q, none⟩ = false := fun q => hi.lrow.frozen q
  have hri0 : RI B0 0 0 Lb Wb ba b2 ns nt T S v vs vt F (Lk T S 0 1) (Gk T 0 0) xs ys w ((((w.setCell ⟨Lb, 0, none⟩ (.int .i64 (-7))).setCell ⟨Lb, 1, none⟩ (.int .i64 0)).setCell ⟨Lb, 2, none⟩ (.int .i64 0)).setCell ⟨Lb, 3, none⟩ (.slice none 0 0)) :=
    RI_stepL (i := 0) HF.out (HI.out.congr (LF' := Lk T S 0 0) (G' := Gk T 0 0) (fun q _ => by unfold Lk; rw [if_neg (by omega)]) (fun _ _ _ _ => rfl))
  have hft := hf.ht
  clear hi hf
  go_enter Try.func34, Try.ntmps34
  go_wp2_with fail
  refine wp_loop_rounds 1 ?_
  rw [rounds_succ]
  go_wp2_with fail
  refine wp_loop_rounds 2 ?_
  rw [rounds_succ]
  go_wp2_with fail
  generalize hW : ((((w.setCell ⟨Lb, 0, none⟩ (.int .i64 (-7))).setCell ⟨Lb, 1, none⟩ (.int .i64 0)).setCell ⟨Lb, 2, none⟩ (.int .i64 0)).setCell ⟨Lb, 3, none⟩ (.slice none 0 0)) = W1 at *
  clear hW l0 l1 l2 l3 lz HI
  have hw7 : W1.cell? ⟨Wb, 7, none⟩ = some vt := (hri0.wrow.cell (by omega)).trans rfl
  have hwl : Wb < W1.heap.size := hri0.wrow.lt
  have hown1 := hri0.town
  have hb2 := hri0.b2le
  have hbi : B0 ≤ W1.heap.size := Nat.le_trans HF.out.bb hb2
  have HRJ : Hid _ := hri0
  clear hri0
  rw [rounds_succ]
  go_wp2_with (at_builtin; refine wpList_append_own _ rfl _ _ 29 rfl b2 22 i2 (.slice none 0 0) 1 24 Try.underlying29 hi2 hz20 hz21 hz22 rfl (by decide) _ _ _ rfl (hown1.alloc _) ⟨W1.heap.size, 0, none⟩ 1 1 [.slice (some ⟨Lb, 0, none⟩) (0 + 1) (0 + 1)] rfl rfl ?c1 ?c2 ?c3 ?c4 ?c5 ?_)
  case c1 => exact cell_one_at _ _ rfl _ _
  case c2 => exact one_oneCell rfl
  case c3 => unfold maxLen; omega
  case c4 => omega
  case c5 => simp; omega
  · intro v5 w5 hown5 hg5 _
    have hri5 := (RI.alloc HRJ.out hbi _).pushT HF.out hown5 hg5
    obtain ⟨g5, cap5, hv5⟩ := own_slice hown5
    rw [hv5] at hri5 ⊢
    have hw5 := (RI.alloc HRJ.out hbi (.cells #[.slice (some ⟨Lb, 0, none⟩) (0 + 1) (0 + 1)] 22)).wrowT hg5
    have hw57 : w5.cell? ⟨Wb, 7, none⟩ = some vt := (hw5.cell (by omega)).trans rfl
    have hwz : ∀ q, w5.frozen? ⟨Wb, q, none⟩ = false := fun q => hw5.frozen q
    have HRI5 : Hid _ := hri5
    clear hri5 hw5 hown5 hg5 hown1 hw7 hv5
    go_wp2
    go_ret
    exact ⟨rfl, _, _, (HRI5.out).congr (fun q hq => by unfold Lk; rw [if_pos (by omega)]) (fun i hi q _ => by omega)⟩
end Go.Proofs.Ytdabcflpcklfiaa
