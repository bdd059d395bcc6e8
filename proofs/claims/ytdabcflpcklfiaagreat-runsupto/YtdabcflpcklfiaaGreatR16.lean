import Derived.Test.YtdabcflpcklfiaaGreatR15
namespace Go.Proofs.YtdabcflpcklfiaaGreat
open Go.RowKit

set_option maxRecDepth 100000 in
set_option maxHeartbeats 1000000 in
theorem returned_none (ao : Option Addr) (cap B0 Lb Wb ba b2 ns nt : Nat) (T : TD) (S : Nat → Nat) (v vs vt : Value) (F : Nat → Value) (xs ys : List Value) (w : World)
    (hf : RetFix B0 0 Lb Wb b2 ns nt T S v) (hi : RI B0 0 0 Lb Wb ba b2 ns nt T S v vs vt F (lf T S 0) (Gk T 0 0) xs ys w w) :
    Calls Tryz.prog 20 #[.pointer (some ⟨Wb, 0, none⟩), .slice (some ⟨Lb, 0, none⟩) (0 + 1) (0 + 1), v, .slice ao 0 cap] w fun e w' => e = .returned (.bool true) ∧
      ∃ vs' vt', RI B0 0 0 Lb Wb ba b2 ns (nt + 1) T S v vs' vt' F nz (fun _ => neg7) xs (ys ++ [.slice (some ⟨Lb, 0, none⟩) (0 + 1) (0 + 1)]) w w' := by
  obtain ⟨i2, hi2, hz20, hz21, hz22⟩ := info_parts Tryz.info22
  have HI : Hid _ := hi
  have HF : Hid _ := hf
  have l0 : w.cell? ⟨Lb, 0, none⟩ = some (.int .i64 0) := (hi.lrow.cell (by omega)).trans (by rfl)
  have l1 : w.cell? ⟨Lb, 1, none⟩ = some (.int .i64 0) := (hi.lrow.cell (by omega)).trans (by rfl)
  have l2 : w.cell? ⟨Lb, 2, none⟩ = some (.int .i64 0) := (hi.lrow.cell (by omega)).trans (by rfl)
  have l3 : w.cell? ⟨Lb, 3, none⟩ = some (.slice none 0 0) := (hi.lrow.cell (by omega)).trans (by rfl)
  have lz : ∀ q, w.frozen? ⟨Lb, q, none⟩ = false := fun q => hi.lrow.frozen q
  have hri0 : RI B0 0 0 Lb Wb ba b2 ns nt T S v vs vt F (Lk T S 0 1) (Gk T 0 0) xs ys w ((((w.setCell ⟨Lb, 0, none⟩ (.int .i64 (-7))).setCell ⟨Lb, 1, none⟩ (.int .i64 0)).setCell ⟨Lb, 2, none⟩ (.int .i64 0)).setCell ⟨Lb, 3, none⟩ (.slice none 0 0)) :=
    RI_stepL (i := 0) HF.out (HI.out.congr (LF' := Lk T S 0 0) (G' := Gk T 0 0) (fun q _ => by unfold Lk; rw [if_neg (by omega)]) (fun _ _ _ _ => rfl))
  have hft := hf.ht
  clear hi hf
  go_enter Tryz.func20, Tryz.ntmps20
  go_wp2_with fail
  refine wp_loop_rounds 1 ?_
  rw [rounds_succ]
  go_wp2_with fail
  refine wp_loop_rounds 2 ?_
  rw [rounds_succ]
  go_wp2_with fail
  generalize hW : ((((w.setCell ⟨Lb, 0, none⟩ (.int .i64 (-7))).setCell ⟨Lb, 1, none⟩ (.int .i64 0)).setCell ⟨Lb, 2, none⟩ (.int .i64 0)).setCell ⟨Lb, 3, none⟩ (.slice none 0 0)) = W1 at *
  clear hW l0 l1 l2 l3 lz HI
  have hw7 : W1.cell? ⟨Wb, 7, none⟩ = some vt := (hri0.wrow.cell (by omega)).trans rfl
  have hwl : Wb < W1.heap.size := hri0.wrow.lt
  have hown1 := hri0.town
  have hb2 := hri0.b2le
  have hbi : B0 ≤ W1.heap.size := Nat.le_trans HF.out.bb hb2
  have HRJ : Hid _ := hri0
  clear hri0
  rw [rounds_succ]
  go_wp2_with (at_builtin; refine wpList_append_own _ rfl _ _ 30 rfl b2 22 i2 (.slice none 0 0) 1 24 Tryz.underlying30 hi2 hz20 hz21 hz22 rfl (by decide) _ _ _ rfl (hown1.alloc _) ⟨W1.heap.size, 0, none⟩ 1 1 [.slice (some ⟨Lb, 0, none⟩) (0 + 1) (0 + 1)] rfl rfl ?c1 ?c2 ?c3 ?c4 ?c5 ?_)
  case c1 => exact cell_one_at _ _ rfl _ _
  case c2 => exact one_oneCell rfl
  case c3 => unfold maxLen; omega
  case c4 => omega
  case c5 => simp; omega
  · intro v5 w5 hown5 hg5 _
    have hri5 := (RI.alloc HRJ.out hbi _).pushT HF.out hown5 hg5
    obtain ⟨g5, cap5, hv5⟩ := own_slice hown5
    rw [hv5] at hri5 ⊢
    have hw5 := (RI.alloc HRJ.out hbi (.cells #[.slice (some ⟨Lb, 0, none⟩) (0 + 1) (0 + 1)] 22)).wrowT hg5
    have hw57 : w5.cell? ⟨Wb, 7, none⟩ = some vt := (hw5.cell (by omega)).trans rfl
    have hwz : ∀ q, w5.frozen? ⟨Wb, q, none⟩ = false := fun q => hw5.frozen q
    have HRI5 : Hid _ := hri5
    clear hri5 hw5 hown5 hg5 hown1 hw7 hv5
    go_wp2
    go_ret
    exact ⟨rfl, _, _, (HRI5.out).congr (fun q hq => by unfold Lk; rw [if_pos (by omega)]) (fun i hi q _ => by omega)⟩
end Go.Proofs.YtdabcflpcklfiaaGreat

namespace Go.Proofs.YtdabcflpcklfiaaGreat
open Go.RowKit

/-- The tasks as they are lent: other memory, the same numbers. -/
def TD.lent (T : TD) (S : Nat → Nat) : TD := { T with A := fun j => some ⟨S j, 0, none⟩, C := fun j => T.L j + 1 }

theorem lent_at {B n : Nat} {T : TD} {S : Nat → Nat} {v : Value} {w wr : World} (h : LentInv B n n T S v w wr) (hL : ∀ i, i < n → T.L i * 16 ≤ 140737488351232) : TasksAt wr B 0 n (T.lent S) := by
  intro i hi
  obtain ⟨f0, f1, f2, f3⟩ := lf_at (T := T) (S := S) hi
  have c := fun q hq => h.lrow.cell (i := q) hq
  refine ⟨?_, ?_, ?_, ?_, ?_⟩
  · rw [Nat.zero_add, c _ (by omega), f0]; rfl
  · rw [Nat.zero_add, c _ (by omega), f1]; rfl
  · rw [Nat.zero_add, c _ (by omega), f2]; rfl
  · rw [Nat.zero_add, c _ (by omega), f3]; rfl
  · have hr := h.srow i hi
    have hLi := hL i hi
    refine ⟨by show T.L i ≤ _; omega, fun _ => ⟨S i, 0, rfl, hr.lt, fun q hq => ?_⟩⟩
    have hq' : q < T.L i := hq
    obtain ⟨e0, e1⟩ := sf_at (K := T.K i) (N := T.N i) hq'
    rw [Nat.zero_add, hr.cell (by omega), hr.cell (by omega), e0, e1]
    exact ⟨rfl, rfl⟩

theorem own_below {w w' : World} {base e size : Nat} {v : Value} {n : Nat} {xs : List Value} (h : w.ownsRow base e size v n xs) (hb : Below w.heap.size w w') : w'.ownsRow base e size v n xs := by
  refine h.kept (row := none) ⟨hb.os, hb.tape, hb.output, hb.size, fun k hk _ => hb.block k hk⟩ ?_
  cases v.ownBlock <;> simp

theorem row_below {w w' : World} {b t m : Nat} {f : Nat → Value} (h : w.rowIs b t m f) (hb : Below w.heap.size w w') : w'.rowIs b t m f := h.of_block (hb.block _ h.lt)

/-- From what is lent to what is looked at. -/
theorem RI_of_lent {B0 n Wb : Nat} {T : TD} {S : Nat → Nat} {v : Value} {F : Nat → Value} {w w1 w3 : World} (hB0 : B0 ≤ w.heap.size) (hn8 : n * 48 ≤ 140737488351232) (hL : ∀ i, i < n → T.L i * 16 ≤ 140737488351232)
    (hWb : B0 ≤ Wb) (hW : w.rowIs Wb 32 9 (wf9 (.slice none 0 0) (.slice none 0 0) F)) (h : LentInv w.heap.size n n T S v w w1) (hb : Below w1.heap.size w1 w3) :
    RetFix B0 n w.heap.size Wb w3.heap.size 0 0 T S v ∧ RI B0 n 0 w.heap.size Wb (w.heap.size + 1) w3.heap.size 0 0 T S v (.slice none 0 0) (.slice none 0 0) F (lf T S n) (Gk T 0 0) [] [] w3 w3 := by
  have hs := hb.size
  have hs1 : w.heap.size < w1.heap.size := h.lrow.lt
  refine ⟨⟨by omega, by omega, hn8, hL, hB0, hWb, fun j hj => by have := h.sgt j hj; omega, h.sord, fun g hg => by have := (h.own.lt g hg).2; omega, by omega⟩,
    ⟨Below.refl _ _, row_below h.lrow hb, fun j hj => (row_below (h.srow j hj) hb).congr (fun q hq => ?_), own_below h.own hb, row_below (hW.of_block (h.below.block _ hW.lt)) hb, ?_, ?_, Nat.le_refl _, fun _ _ _ _ _ => rfl⟩⟩
  · unfold Gk
    rw [if_neg (by omega)]
    by_cases e : j = 0
    · rw [if_pos e, if_neg (by omega)]
    · rw [if_neg e]
  · have : allOf T S 0 = [] := rfl
    rw [this]
    exact World.ownsRow_nil _ _ _ _
  · exact World.ownsRow_nil _ _ _ _

def chkR (T : TD) (n : Nat) : Int × Int := if 1 ≤ n ∧ n ≤ 8 then Cad.chk T.E n else (1, 0)

theorem ref_all (b off n cap : Nat) (T : TD) (w : World) (x y : Int) (hc : chkR T n = (x, y)) (hm : n ≤ 9223372036854775807) (hb : b < w.heap.size) (hT : TasksAt w b off n T) :
    Calls Tryz.prog 42 #[.slice (some ⟨b, off, none⟩) n cap] w fun e w' => e = .returned (.tuple #[.int .i64 x, .int .i64 y]) ∧ Below w.heap.size w w' := by
  unfold chkR at hc
  by_cases h : 1 ≤ n ∧ n ≤ 8
  · rw [if_pos h] at hc
    refine (ref_some b off n cap T w h.1 h.2 hb hT).mono ?_
    rintro e w' ⟨rfl, hb⟩
    exact ⟨by rw [hc], hb⟩
  · rw [if_neg h] at hc
    refine (ref_many _ n cap w (by omega) hm).mono ?_
    rintro e w' ⟨rfl, rfl⟩
    cases hc
    exact ⟨rfl, Below.refl _ _⟩

def fnil (q : Nat) : Value := if q = 8 then .int .i64 0 else .slice none 0 0

theorem world_row (w : World) : (w.alloc (.cells #[.slice none 0 0, .slice none 0 0, .slice none 0 0, .slice none 0 0, .slice none 0 0, .slice none 0 0, .slice none 0 0, .slice none 0 0, .int .i64 0] 32)).rowIs w.heap.size 32 9 (wf9 (.slice none 0 0) (.slice none 0 0) fnil) := by
  refine World.rowIs_alloc w #[.slice none 0 0, .slice none 0 0, .slice none 0 0, .slice none 0 0, .slice none 0 0, .slice none 0 0, .slice none 0 0, .slice none 0 0, .int .i64 0] 32 _ (fun i hi => ?_)
  have h : i < 9 := hi
  match i, h with
  | 0, _ => rfl
  | 1, _ => rfl
  | 2, _ => rfl
  | 3, _ => rfl
  | 4, _ => rfl
  | 5, _ => rfl
  | 6, _ => rfl
  | 7, _ => rfl
  | 8, _ => rfl

end Go.Proofs.YtdabcflpcklfiaaGreat
