import Derived.Test.YtdabcflpcklfiaaGreatK30
/- A kernel beside memory that is not its own. -/
namespace Go.Proofs.YtdabcflpcklfiaaGreat
open Go.RowKit Cad

/-- A kernel that owns none of the blocks 'own'. -/
def KSt (own : Nat → Prop) (w : World) (kb : Nat) (S : Sy) (m : Mc) : Prop := ∃ Y, KAt w kb S m Y ∧ ∀ q, footK kb S m Y q → ¬ own q

theorem KSt.ok {own : Nat → Prop} {w : World} {kb : Nat} {S : Sy} {m : Mc} (h : KSt own w kb S m) : Ok S m := by
  obtain ⟨Y, hk, _⟩ := h
  exact hk.ok

theorem KSt.below {own : Nat → Prop} {w w' : World} {kb : Nat} {S : Sy} {m : Mc} (h : KSt own w kb S m) (hb : Below w.heap.size w w') : KSt own w' kb S m := by
  obtain ⟨Y, hk, ho⟩ := h
  exact ⟨Y, hk.below hb, ho⟩

/-- Other blocks are written. -/
theorem KSt.other {own : Nat → Prop} {w w' : World} {kb : Nat} {S : Sy} {m : Mc} (h : KSt own w kb S m) (hb : Fr own w w') : KSt own w' kb S m := by
  obtain ⟨Y, hk, ho⟩ := h
  exact ⟨Y, hk.same (fun b hf => hb.block b (hk.foot_lt hf) (ho b hf)), ho⟩

/-- New blocks are nobody's but their maker's. -/
theorem KSt.more {own own' : Nat → Prop} {w : World} {kb : Nat} {S : Sy} {m : Mc} (h : KSt own w kb S m) (hx : ∀ q, own' q → own q ∨ w.heap.size ≤ q) : KSt own' w kb S m := by
  obtain ⟨Y, hk, ho⟩ := h
  refine ⟨Y, hk, fun q hq ho' => ?_⟩
  rcases hx q ho' with h1 | h1
  · exact ho q hq h1
  · have := hk.foot_lt hq; omega

theorem KSt.moved {own : Nat → Prop} {w w' : World} {kb : Nat} {S : Sy} {m m' : Mc} {Y Y' : Lay} (hown : ∀ q, own q → q < w.heap.size) (ho : ∀ q, footK kb S m Y q → ¬ own q) (h : KMoved kb S m m' Y Y' w w') : KSt own w' kb S m' ∧ Fr (fun q => ¬ own q) w w' := by
  refine ⟨⟨Y', h.kat, fun q hq hoq => ?_⟩, h.fr.mono (fun q hq => ho q hq)⟩
  rcases h.foot q hq with h1 | h1
  · exact ho q h1 hoq
  · have := hown q hoq; omega

theorem kst_tick {own : Nat → Prop} {w : World} {kb : Nat} {S : Sy} {m : Mc} (hown : ∀ q, own q → q < w.heap.size) (h : KSt own w kb S m) (hnow : m.now < 1000000000000000000) :
    Calls Tryz.prog 28 #[.pointer (some ⟨kb, 0, none⟩)] w fun e w' => e = .returned (.tuple #[.int .i64 (tick S m).2.1, .bool (tick S m).2.2]) ∧ KSt own w' kb S (tick S m).1 ∧ Fr (fun q => ¬ own q) w w' := by
  obtain ⟨Y, hk, ho⟩ := h
  refine (ktick_any kb S m Y w hk hnow).mono ?_
  rintro e w' ⟨he, Y', hm⟩
  exact ⟨he, KSt.moved hown ho hm⟩

theorem kst_arrive {own : Nat → Prop} {w : World} {kb : Nat} {S : Sy} {m : Mc} (x jit : Int) (db dof d dc : Nat) (D : Nat → Int) (ao : Option Addr) (hown : ∀ q, own q → q < w.heap.size) (h : KSt own w kb S m) (har : m.arrd < 1000000000000000000) (hd : d ≤ 9223372036854775806)
    (hD : 1 ≤ d → ao = some ⟨db, dof, none⟩ ∧ db < w.heap.size ∧ IntsIn w db dof d D) :
    Calls Tryz.prog 45 #[.pointer (some ⟨kb, 0, none⟩), .int .i64 x, .int .i64 jit, .slice ao d dc] w fun e w' => e = .returned (.int .i64 (arrive S m x jit D d).2) ∧ KSt own w' kb S (arrive S m x jit D d).1 ∧ Fr (fun q => ¬ own q) w w' := by
  obtain ⟨Y, hk, ho⟩ := h
  refine (karrive_any kb S m Y x jit db dof d dc D ao w hk har hd hD).mono ?_
  rintro e w' ⟨he, Y', hm⟩
  exact ⟨he, KSt.moved hown ho hm⟩

/-- What lies below is everybody's but the kernel's. -/
theorem fr_below {B : Nat} {w w' : World} (h : Fr (fun q => ¬ q < B) w w') (hB : B ≤ w.heap.size) : Below B w w' := h.below hB (fun i hi => by omega)

/-! ### the example runs -/

def exS : Sy := { n := 3, P := exP, J := exJ, Z := exZ, L := exL, K := exK, N := exN, C := ceilI exK exN exL exZ 3 }
theorem exS_is (B : Nat) : sysOf (exT B) exZ 3 = exS := rfl

def exDa (i : Nat) : Int := if i = 0 then 5 else 1
def exDb (i : Nat) : Int := if i = 0 then 1 else 2
def ex1 : Mc := (arrive exS Cad.start 2 0 exDa 2).1
def ex2 : Mc := (tick exS ex1).1
def ex3 : Mc := (arrive exS ex2 0 0 exDb 2).1
def exTo : Nat → Mc
  | 0 => ex3
  | k + 1 => (tick exS (exTo k)).1

theorem ex1_res : (arrive exS Cad.start 2 0 exDa 2).2 = 0 := by decide
theorem ex2_res : (tick exS ex1).2.1 = 2 := by decide
theorem ex3_res : (arrive exS ex2 0 0 exDb 2).2 = 0 := by decide
theorem exTo_res : ∀ k, k < 4 → (tick exS (exTo k)).2.1 = 2 := by decide
theorem ex8_res : (tick exS (exTo 4)).2.1 = 0 := by decide
theorem ex10_res : (tick exS (exTo 6)).2.1 = 0 ∧ (tick exS (exTo 6)).2.2 = true := by decide
theorem ex1_small : ex1.now < 1000000000000000000 ∧ ex1.arrd < 1000000000000000000 := by decide
theorem ex2_small : ex2.now < 1000000000000000000 ∧ ex2.arrd < 1000000000000000000 := by decide
theorem exTo_small : ∀ k, k < 8 → (exTo k).now < 1000000000000000000 := by decide

end Go.Proofs.YtdabcflpcklfiaaGreat

/- What the document says of its second example, the program does. -/
namespace Go.Proofs.YtdabcflpcklfiaaGreat
open Go.RowKit Cad

theorem ints_lit3 (w : World) (a b c : Int) : (w.alloc (.cells #[.int .i64 a, .int .i64 b, .int .i64 c] 3)).rowIs w.heap.size 3 3 (fun q => .int .i64 (if q = 0 then a else if q = 1 then b else c)) :=
  World.rowIs_alloc w #[.int .i64 a, .int .i64 b, .int .i64 c] 3 _ (fun i hi => by
    have hi' : i < 3 := hi
    match i, hi' with
    | 0, _ => rfl
    | 1, _ => rfl
    | 2, _ => rfl)
theorem ints_lit2 (w : World) (a b : Int) : (w.alloc (.cells #[.int .i64 a, .int .i64 b] 3)).rowIs w.heap.size 3 2 (fun q => .int .i64 (if q = 0 then a else b)) :=
  World.rowIs_alloc w #[.int .i64 a, .int .i64 b] 3 _ (fun i hi => by
    have hi' : i < 2 := hi
    match i, hi' with
    | 0, _ => rfl
    | 1, _ => rfl)

set_option maxRecDepth 100000 in
set_option maxHeartbeats 1000000 in
theorem sure_any (w : World) : Calls Tryz.prog 50 #[] w fun e w' => e = .returned (.bool true) ∧ Below w.heap.size w w' := by
  go_enter Tryz.func50, Tryz.ntmps50
  go_wp2_with fail
  refine (example_any w).mono ?_
  rintro e w1 ⟨rfl, hT1, hl1, hb1⟩
  have HT1 : Hid (TasksAt w1 (w.heap.size + 3) 0 3 (exT w.heap.size)) := hT1
  have HB1 : Hid (Below w.heap.size w w1) := hb1
  clear hT1 hb1
  go_wp2_with fail
  have HZ2 : Hid (IntsAt (w1.alloc (.cells #[.int .i64 2, .int .i64 1, .int .i64 0] 3)) w1.heap.size 0 3 exZ) := fun i hi => by
    rw [Nat.zero_add, (ints_lit3 w1 2 1 0).cell hi]
    rfl
  have HT2 : Hid (TasksAt (w1.alloc (.cells #[.int .i64 2, .int .i64 1, .int .i64 0] 3)) (w.heap.size + 3) 0 3 (exT w.heap.size)) := TasksAt.below HT1.out hl1 (below_alloc1 _ _)
  have HB2 : Hid (Below w.heap.size w (w1.alloc (.cells #[.int .i64 2, .int .i64 1, .int .i64 0] 3))) := HB1.out.alloc HB1.out.size _
  have hs2 : (w1.alloc (.cells #[.int .i64 2, .int .i64 1, .int .i64 0] 3)).heap.size = w1.heap.size + 1 := by simp
  generalize (w1.alloc (.cells #[.int .i64 2, .int .i64 1, .int .i64 0] 3)) = w2 at *
  have hsw := HB1.out.size
  have HAN : Hid (Calls Tryz.prog 35 #[.slice (some ⟨w.heap.size + 3, 0, none⟩) 3 3, .slice (some ⟨w1.heap.size, 0, none⟩) 3 3] w2 fun e w' => ∃ g, e = .returned (.tuple #[.slice (some ⟨g, 0, none⟩) 3 3, .int .i64 0, .int .i64 0]) ∧ w'.cell? ⟨g, 0, none⟩ = some (.int .i64 8) ∧ w'.cell? ⟨g, 1, none⟩ = some (.int .i64 17) ∧ w'.cell? ⟨g, 2, none⟩ = some (.int .i64 16) ∧ Below w2.heap.size w2 w') := by
    unfold Hid
    refine (ana_ok (w.heap.size + 3) 0 3 3 w1.heap.size 0 3 (exT w.heap.size) exZ w2 (ex_chk _) (by omega) (by omega) HT2.out HZ2.out ex_prio).mono ?_
    rintro e w' ⟨g, R, rfl, _, hr, hR, hb⟩
    refine ⟨g, rfl, ?_, ?_, ?_, hb⟩
    · rw [hr.cell (by omega), ex_bounds (by omega) (hR 0 (by omega))]; rfl
    · rw [hr.cell (by omega), ex_bounds (by omega) (hR 1 (by omega))]; rfl
    · rw [hr.cell (by omega), ex_bounds (by omega) (hR 2 (by omega))]; rfl
  clear HT1 HB1
  refine (HAN.out).mono ?_
  rintro e w3 ⟨g, rfl, g0, g1, g2, hb3⟩
  have hs3 := hb3.size
  have HNW : Hid (Calls Tryz.prog 18 #[.slice (some ⟨w.heap.size + 3, 0, none⟩) 3 3, .slice (some ⟨w1.heap.size, 0, none⟩) 3 3] w3 fun e w' => ∃ kb, e = .returned (.tuple #[.pointer (some ⟨kb, 0, none⟩), .int .i64 0, .int .i64 0]) ∧ KSt (fun q => q < w.heap.size) w' kb exS Cad.start ∧ Below w.heap.size w w') := by
    unfold Hid
    refine (new_ok (w.heap.size + 3) 0 3 3 w1.heap.size 0 3 (exT w.heap.size) exZ w3 (ex_chk _) (by omega) (by omega) (TasksAt.below HT2.out (by omega) hb3) (IntsAt.below HZ2.out (by omega) hb3) ex_prio).mono ?_
    rintro e w' ⟨kb, Y, rfl, hk, hb, hf⟩
    rw [exS_is] at hk hf
    exact ⟨kb, rfl, ⟨Y, hk, fun q hq hlt => by have := hf q hq; omega⟩, (HB2.out.trans (hb3.mono (by omega))).trans (hb.mono (by omega))⟩
  clear HAN HZ2 HT2 HB2
  go_wp2_with fail
  refine (HNW.out).mono ?_
  rintro e w4 ⟨kb, rfl, hk4, hb4⟩
  have hs4 := hb4.size
  have HAR : Hid (Calls Tryz.prog 45 #[.pointer (some ⟨kb, 0, none⟩), .int .i64 2, .int .i64 0, .slice (some ⟨w4.heap.size, 0, none⟩) 2 2] (w4.alloc (.cells #[.int .i64 5, .int .i64 1] 3)) fun e w' => e = .returned (.int .i64 0) ∧ KSt (fun q => q < w.heap.size) w' kb exS ex1 ∧ Below w.heap.size w w') := by
    unfold Hid
    refine (kst_arrive (own := fun q => q < w.heap.size) (S := exS) (m := Cad.start) 2 0 w4.heap.size 0 2 2 exDa (some ⟨w4.heap.size, 0, none⟩) (fun q hq => by simp; omega) (hk4.below (below_alloc1 _ _)) (by decide) (by omega) (fun _ => ⟨rfl, by simp, fun i hi => by rw [Nat.zero_add, (ints_lit2 w4 5 1).cell hi]; rfl⟩)).mono ?_
    rintro e w' ⟨he, hk, hf⟩
    rw [ex1_res] at he
    exact ⟨he, hk, (hb4.alloc hs4 _).trans (fr_below hf (by simp; omega))⟩
  clear HNW hk4 hb4 g0 g1 g2
  go_wp2_with fail
  refine (HAR.out).mono ?_
  rintro e w5 ⟨rfl, hk5, hb5⟩
  have hs5 := hb5.size
  have HTK : Hid (Calls Tryz.prog 28 #[.pointer (some ⟨kb, 0, none⟩)] w5 fun e w' => ∃ dd, e = .returned (.tuple #[.int .i64 2, .bool dd]) ∧ KSt (fun q => q < w.heap.size) w' kb exS ex2 ∧ Below w.heap.size w w') := by
    unfold Hid
    refine (kst_tick (own := fun q => q < w.heap.size) (fun q hq => by omega) hk5 ex1_small.1).mono ?_
    rintro e w' ⟨he, hk, hf⟩
    rw [ex2_res] at he
    exact ⟨_, he, hk, hb5.trans (fr_below hf (by omega))⟩
  clear HAR hk5 hb5
  go_wp2_with fail
  refine (HTK.out).mono ?_
  rintro e w6 ⟨dd, rfl, hk6, hb6⟩
  have hs6 := hb6.size
  have HAR : Hid (Calls Tryz.prog 45 #[.pointer (some ⟨kb, 0, none⟩), .int .i64 0, .int .i64 0, .slice (some ⟨w6.heap.size, 0, none⟩) 2 2] (w6.alloc (.cells #[.int .i64 1, .int .i64 2] 3)) fun e w' => e = .returned (.int .i64 0) ∧ KSt (fun q => q < w.heap.size) w' kb exS (exTo 0) ∧ Below w.heap.size w w') := by
    unfold Hid
    refine (kst_arrive (own := fun q => q < w.heap.size) (S := exS) (m := ex2) 0 0 w6.heap.size 0 2 2 exDb (some ⟨w6.heap.size, 0, none⟩) (fun q hq => by simp; omega) (hk6.below (below_alloc1 _ _)) ex2_small.2 (by omega) (fun _ => ⟨rfl, by simp, fun i hi => by rw [Nat.zero_add, (ints_lit2 w6 1 2).cell hi]; rfl⟩)).mono ?_
    rintro e w' ⟨he, hk, hf⟩
    rw [ex3_res] at he
    exact ⟨he, hk, (hb6.alloc hs6 _).trans (fr_below hf (by simp; omega))⟩
  clear HTK hk6 hb6
  go_wp2_with fail
  refine (HAR.out).mono ?_
  rintro e w7 ⟨rfl, hk7, hb7⟩
  have HK7 : Hid (KSt (fun q => q < w.heap.size) w7 kb exS (exTo 0)) := hk7
  have HB7 : Hid (Below w.heap.size w w7) := hb7
  clear HAR hk7 hb7
  go_wp2_with fail
  go_loopw [9, 12, 13] (fun x sm i wr => ∃ k : Nat, k ≤ 4 ∧ i = .int .i64 k ∧ sm = .int .i64 (2 + 2 * k) ∧ KSt (fun q => q < w.heap.size) wr kb exS (exTo k) ∧ Below w.heap.size w wr) (fun _ _ i _ => 4 - (intOf i).toNat)
  case atStart => exact ⟨0, by omega, rfl, rfl, HK7.out, HB7.out⟩
  case round =>
    obtain ⟨k, hk4, rfl, rfl, hkr, hbr⟩ := hrel
    have hsr := hbr.size
    by_cases hlt : k < 4
    · have HTK : Hid (Calls Tryz.prog 28 #[.pointer (some ⟨kb, 0, none⟩)] wr fun e w' => ∃ dd, e = .returned (.tuple #[.int .i64 2, .bool dd]) ∧ KSt (fun q => q < w.heap.size) w' kb exS (exTo (k + 1)) ∧ Below w.heap.size w w') := by
        unfold Hid
        refine (kst_tick (own := fun q => q < w.heap.size) (fun q hq => by omega) hkr (exTo_small k (by omega))).mono ?_
        rintro e w' ⟨he, hk, hf⟩
        rw [exTo_res k hlt] at he
        exact ⟨_, he, hk, hbr.trans (fr_below hf (by omega))⟩
      clear hkr hbr
      go_wp2_with fail
      refine (HTK.out).mono ?_
      rintro e w8 ⟨dd8, rfl, hk8, hb8⟩
      have HK8 : Hid (KSt (fun q => q < w.heap.size) w8 kb exS (exTo (k + 1))) := hk8
      have HB8 : Hid (Below w.heap.size w w8) := hb8
      clear HTK hk8 hb8
      go_wp2
      go_roundw
      case rel => exact ⟨k + 1, by omega, by go_num, by simp; omega, HK8.out, HB8.out⟩
      case measure => simp [intOf]; omega
    · obtain rfl : k = 4 := by omega
      have HTK : Hid (Calls Tryz.prog 28 #[.pointer (some ⟨kb, 0, none⟩)] wr fun e w' => ∃ dd, e = .returned (.tuple #[.int .i64 0, .bool dd]) ∧ KSt (fun q => q < w.heap.size) w' kb exS (exTo 5) ∧ Below w.heap.size w w') := by
        unfold Hid
        refine (kst_tick (own := fun q => q < w.heap.size) (fun q hq => by omega) hkr (exTo_small 4 (by omega))).mono ?_
        rintro e w' ⟨he, hk, hf⟩
        rw [ex8_res] at he
        exact ⟨_, he, hk, hbr.trans (fr_below hf (by omega))⟩
      clear hkr hbr
      go_wp2_with fail
      refine (HTK.out).mono ?_
      rintro e w8 ⟨dd8, rfl, hk8, hb8⟩
      have hs8 := hb8.size
      have HT9 : Hid (Calls Tryz.prog 28 #[.pointer (some ⟨kb, 0, none⟩)] w8 fun e w' => ∃ v, e = .returned v ∧ KSt (fun q => q < w.heap.size) w' kb exS (exTo 6) ∧ Below w.heap.size w w') := by
        unfold Hid
        refine (kst_tick (own := fun q => q < w.heap.size) (fun q hq => by omega) hk8 (exTo_small 5 (by omega))).mono ?_
        rintro e w' ⟨he, hk, hf⟩
        exact ⟨_, he, hk, hb8.trans (fr_below hf (by omega))⟩
      clear HTK hk8 hb8
      go_wp2_with fail
      refine (HT9.out).mono ?_
      rintro e w9 ⟨v9, rfl, hk9, hb9⟩
      have hs9 := hb9.size
      have HT10 : Hid (Calls Tryz.prog 28 #[.pointer (some ⟨kb, 0, none⟩)] w9 fun e w' => e = .returned (.tuple #[.int .i64 0, .bool true]) ∧ Below w.heap.size w w') := by
        unfold Hid
        refine (kst_tick (own := fun q => q < w.heap.size) (fun q hq => by omega) hk9 (exTo_small 6 (by omega))).mono ?_
        rintro e w' ⟨he, hk, hf⟩
        rw [ex10_res.1, ex10_res.2] at he
        exact ⟨he, hb9.trans (fr_below hf (by omega))⟩
      clear HT9 hk9 hb9
      go_wp2_with fail
      refine (HT10.out).mono ?_
      rintro e w10 ⟨rfl, hb10⟩
      have HB10 : Hid (Below w.heap.size w w10) := hb10
      clear HT10 hb10
      go_wp2
      go_ret
      exact ⟨rfl, HB10.out⟩
end Go.Proofs.YtdabcflpcklfiaaGreat
