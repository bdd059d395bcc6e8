import Derived.Test.YtdabcflpcklfiaaGreatA41
import Derived.Test.YtdabcflpcklfiaaGreatA45
/- The law: one step of a script. -/
namespace Go.Proofs.YtdabcflpcklfiaaGreat
open Go.RowKit Cad

theorem rg_arrive {F : Nat → Prop} {w : World} {yb : Nat} {S : Sy} {m : Mc} (h : RG F w yb S m) (ho : Ok S m) (hnow : m.now < 1000000000000000000) (har : m.arrd ≤ 1000000000000) {x jit : Int} {ao : Option Addr} {dc : Nat} (dem : List Int) (hd : DemAt w ao dem) (hdl : dem.length ≤ 9223372036854775806) :
    Calls Tryz.prog 46 #[.pointer (some ⟨yb, 0, none⟩), .int .i64 x, .int .i64 jit, .slice ao dem.length dc] w fun e w' => e = .returned (.int .i64 (arrive S m x jit (fun q => dem.getD q 0) dem.length).2) ∧ RG (Nx F w.heap.size w'.heap.size) w' yb S (arrive S m x jit (fun q => dem.getD q 0) dem.length).1 ∧ Fr F w w' := by
  obtain ⟨B, tb, tc, pb, pc, n, T, Z, k, jv, dv, h⟩ := h
  obtain ⟨rfl, hG, hP, hB, hat, hkd, hrr, fy, ft, fp, fs, fj, fd⟩ := h
  refine (rarrive_any hat hkd hrr ho hG hB hnow (by have := hrr.len; omega) dem hd hdl).mono ?_
  rintro e w' ⟨he, k', jv', dv', ha⟩
  refine ⟨he, ⟨B, tb, tc, pb, pc, n, T, Z, k', jv', dv', rfl, hG, hP, Nat.le_trans hB ha.fr.size, ha.mem, ha.kinds, ha.rr, .inl fy, .inl ft, .inl fp, fun t ht a hta => .inl (fs t ht a hta), fun b hb => ?_, fun i x hx a hxa => ?_⟩, ha.fr.mono (fun q hq => ?_)⟩
  · rcases ha.fj b hb with e | e
    · exact .inl (fj b e)
    · exact .inr ⟨e, (ha.mem.jobs.lt b hb).2⟩
  · rcases ha.fd i x hx a hxa with ⟨y, hy, e⟩ | e
    · exact .inl (fd i y hy a e)
    · obtain ⟨_, _, hr⟩ := ha.kinds.dt i x hx a hxa
      exact .inr ⟨e, hr.lt⟩
  · rcases hq with rfl | g
    · exact fy
    · exact fj q g

theorem lk_arrive {S : Sy} {m : Mc} (h : LkInv S m) {x jit : Int} {D : Nat → Int} {d : Nat} : LkInv S (arrive S m x jit D d).1 := by
  unfold arrive
  split
  · exact h
  · split
    · exact h
    · rename_i h1 h2
      have h3 : refuse S m x.toNat jit D d = 0 := by
        by_cases c : refuse S m x.toNat jit D d = 0
        · exact c
        · exact absurd c h2
      exact lk_added h (by omega) (refuse_zero h3).1

theorem arrive_nums (S : Sy) (m : Mc) (x jit : Int) (D : Nat → Int) (d : Nat) : (arrive S m x jit D d).1.now = m.now ∧ (arrive S m x jit D d).1.arrd ≤ m.arrd + 1 := by
  unfold arrive
  split
  · exact ⟨rfl, by show m.arrd ≤ m.arrd + 1; omega⟩
  · split
    · exact ⟨rfl, by show m.arrd ≤ m.arrd + 1; omega⟩
    · exact ⟨rfl, by show m.arrd + 1 ≤ m.arrd + 1; omega⟩

/-- A step's list of numbers, which is nobody's of theirs. -/
def OpL (w : World) (FK FR M : Nat → Prop) (ao : Option Addr) (n : Nat) (R : Nat → Int) : Prop :=
  n * 8 ≤ 140737488351232 ∧ (1 ≤ n → ∃ rb rf, ao = some ⟨rb, rf, none⟩ ∧ rb < w.heap.size ∧ IntsAt w rb rf n R ∧ ¬ (FK rb ∨ FR rb ∨ M rb))

def numsL (R : Nat → Int) (n : Nat) : List Int := (List.range n).map R
theorem numsL_len (R : Nat → Int) (n : Nat) : (numsL R n).length = n := by simp [numsL]
theorem numsL_at {R : Nat → Int} {n q : Nat} (h : q < n) : (numsL R n).getD q 0 = R q := by simp [numsL, List.getD, h]

/-- A step on the world with its box. -/
structure OpBox (w W0 : World) (bx : Nat) (k A B : Int) (ao : Option Addr) (n c : Nat) : Prop where
  below : Below w.heap.size w W0
  lt : bx < W0.heap.size
  c0 : W0.cell? ⟨bx, 0, none⟩ = some (.int .i64 k)
  c1 : W0.cell? ⟨bx, 1, none⟩ = some (.int .i64 A)
  c2 : W0.cell? ⟨bx, 2, none⟩ = some (.int .i64 B)
  c3 : W0.cell? ⟨bx, 3, none⟩ = some (.slice ao n c)

theorem opbox (w : World) (k A B : Int) (ao : Option Addr) (n c : Nat) (wh : Bool) : OpBox w (w.alloc (.cells #[.int .i64 k, .int .i64 A, .int .i64 B, .slice ao n c, .bool wh] 64)) w.heap.size k A B ao n c := by
  have h := row5 w (.int .i64 k) (.int .i64 A) (.int .i64 B) (.slice ao n c) (.bool wh) 64
  exact ⟨below_alloc1 _ _, h.lt, h.cell (by omega), h.cell (by omega), h.cell (by omega), h.cell (by omega)⟩

theorem SE.pre {j : Nat} {w W0 w' : World} {Wb xb yb : Nat} {S : Sy} {m m' : Mc} {FK FR M E FK' FR' M' E' : Nat → Prop} {V V' : Nat → Value} {C C' : Nat → List Value} {last last' : Int}
    (hb : Below w.heap.size w W0) (g : SE j W0 w' Wb xb yb S m m' FK FR M E FK' FR' M' E' V V' C C' last last') : SE j w w' Wb xb yb S m m' FK FR M E FK' FR' M' E' V V' C C' last last' :=
  { g with am := (AM.below hb).trans g.am }

theorem SE.of_side {w w' : World} {Wb xb yb : Nat} {S : Sy} {m m' : Mc} {FK FR M E FK' FR' : Nat → Prop} {V : Nat → Value} {C : Nat → List Value} {last : Int} (h : AS w Wb xb yb S m FK FR M E V C last) (hsp : SP w' xb yb S m' FK' FR') (hm : SPM w w' FK FR FK' FR') (h1 : m'.now ≤ m.now + 300) (h2 : m'.arrd ≤ m.arrd + 1) :
    SE 1 w w' Wb xb yb S m m' FK FR M E FK' FR' M E V V C C last last :=
  ⟨h.side hsp hm, AM.of_side hm, ⟨rfl, rfl⟩, fun i hi => by omega, by omega, by omega, by omega⟩

/-- What a step leaves, some way. -/
def SX (w w' : World) (Wb xb yb : Nat) (S : Sy) (m : Mc) (FK FR M E : Nat → Prop) (V : Nat → Value) (C : Nat → List Value) (last : Int) : Prop :=
  ∃ m' FK' FR' M' E' V' C' last', SE 1 w w' Wb xb yb S m m' FK FR M E FK' FR' M' E' V V' C C' last last'

set_option maxRecDepth 100000 in
set_option maxHeartbeats 8000000 in
theorem step_other  {k : Int} (hk : k ≠ 1 ∧ k ≠ 2 ∧ k ≠ 3 ∧ k ≠ 4 ∧ k ≠ 5) {w : World} {Wb sb xb yb : Nat} {S : Sy} {m : Mc} {FK FR M E : Nat → Prop} {V : Nat → Value} {C : Nat → List Value} {last : Int} (h : AS w Wb xb yb S m FK FR M E V C last) (hbd : BD 0 m C last)
    (hs0 : w.cell? ⟨sb, 0, none⟩ = some (.pointer (some ⟨xb, 0, none⟩))) (hs1 : w.cell? ⟨sb, 1, none⟩ = some (.pointer (some ⟨yb, 0, none⟩))) (hsn : ¬ (FK sb ∨ FR sb ∨ M sb)) {A B : Int} {ao : Option Addr} {n c : Nat} {wh : Bool} :
    Calls Tryz.prog 23 #[.pointer (some ⟨Wb, 0, none⟩), .pointer (some ⟨sb, 0, none⟩), .agg #[.int .i64 k, .int .i64 A, .int .i64 B, .slice ao n c, .bool wh]] w fun e w' => e = .returned (.bool true) ∧ SX w w' Wb xb yb S m FK FR M E V C last := by
  obtain ⟨W0, hW0⟩ : ∃ W0, W0 = w.alloc (.cells #[.int .i64 k, .int .i64 A, .int .i64 B, .slice ao n c, .bool wh] 64) := ⟨_, rfl⟩
  have hbox := opbox w k A B ao n c wh
  rw [← hW0] at hbox
  have hsl : sb < w.heap.size := World.block_lt_of_cell? w ⟨sb, 0, none⟩ hs0
  have c0 : W0.cell? ⟨sb, 0, none⟩ = some (.pointer (some ⟨xb, 0, none⟩)) := (hbox.below.cell (p := ⟨sb, 0, none⟩) hsl).trans hs0
  have c1 : W0.cell? ⟨sb, 1, none⟩ = some (.pointer (some ⟨yb, 0, none⟩)) := (hbox.below.cell (p := ⟨sb, 1, none⟩) hsl).trans hs1
  have hsl0 : sb < W0.heap.size := Nat.lt_of_lt_of_le hsl hbox.below.size
  have HA : Hid (AS W0 Wb xb yb S m FK FR M E V C last) := h.below hbox.below
  have HBD : Hid (BD 0 m C last) := hbd
  have HN : Hid (¬ (FK sb ∨ FR sb ∨ M sb)) := hsn
  have HB : Hid (Below w.heap.size w W0) := hbox.below
  have t0 := hbox.c0
  have t1 := hbox.c1
  have t2 := hbox.c2
  have t3 := hbox.c3
  have hbl := hbox.lt
  have HW0 : Hid (W0 = w.alloc (.cells #[.int .i64 k, .int .i64 A, .int .i64 B, .slice ao n c, .bool wh] 64)) := hW0
  have b1 : (k == 1) = false := by rw [beq_eq_false_iff_ne]; exact hk.1
  have b2 : (k == 2) = false := by rw [beq_eq_false_iff_ne]; exact hk.2.1
  have b3 : (k == 3) = false := by rw [beq_eq_false_iff_ne]; exact hk.2.2.1
  have b4 : (k == 4) = false := by rw [beq_eq_false_iff_ne]; exact hk.2.2.2.1
  have b5 : (k == 5) = false := by rw [beq_eq_false_iff_ne]; exact hk.2.2.2.2
  have HEND : Hid (SX w (w.alloc (.cells #[.int .i64 k, .int .i64 A, .int .i64 B, .slice ao n c, .bool wh] 64)) Wb xb yb S m FK FR M E V C last) := by
    refine ⟨m, FK, FR, M, E, V, C, last, ?_⟩
    rw [← hW0]
    have h1 := SE.pre HB.out (SE.of_side HA.out HA.out.sp (SPM.refl _ _ _) (by omega) (by omega))
    exact h1
  clear hk h hbox hs0 hs1 hbd hsn hW0 HW0
  go_enter Tryz.func23, Tryz.ntmps23
  go_wp2
  go_ret
  exact ⟨rfl, HEND.out⟩

set_option maxRecDepth 100000 in
set_option maxHeartbeats 8000000 in
theorem step_ticks {w : World} {Wb sb xb yb : Nat} {S : Sy} {m : Mc} {FK FR M E : Nat → Prop} {V : Nat → Value} {C : Nat → List Value} {last : Int} (h : AS w Wb xb yb S m FK FR M E V C last) (hbd : BD 0 m C last)
    (hs0 : w.cell? ⟨sb, 0, none⟩ = some (.pointer (some ⟨xb, 0, none⟩))) (hs1 : w.cell? ⟨sb, 1, none⟩ = some (.pointer (some ⟨yb, 0, none⟩))) (hsn : ¬ (FK sb ∨ FR sb ∨ M sb)) {A B : Int} {ao : Option Addr} {n c : Nat} {wh : Bool} :
    Calls Tryz.prog 23 #[.pointer (some ⟨Wb, 0, none⟩), .pointer (some ⟨sb, 0, none⟩), .agg #[.int .i64 2, .int .i64 A, .int .i64 B, .slice ao n c, .bool wh]] w fun e w' => e = .returned (.bool true) ∧ SX w w' Wb xb yb S m FK FR M E V C last := by
  obtain ⟨W0, hW0⟩ : ∃ W0, W0 = w.alloc (.cells #[.int .i64 2, .int .i64 A, .int .i64 B, .slice ao n c, .bool wh] 64) := ⟨_, rfl⟩
  have hbox := opbox w 2 A B ao n c wh
  rw [← hW0] at hbox
  have hsl : sb < w.heap.size := World.block_lt_of_cell? w ⟨sb, 0, none⟩ hs0
  have c0 : W0.cell? ⟨sb, 0, none⟩ = some (.pointer (some ⟨xb, 0, none⟩)) := (hbox.below.cell (p := ⟨sb, 0, none⟩) hsl).trans hs0
  have c1 : W0.cell? ⟨sb, 1, none⟩ = some (.pointer (some ⟨yb, 0, none⟩)) := (hbox.below.cell (p := ⟨sb, 1, none⟩) hsl).trans hs1
  have hsl0 : sb < W0.heap.size := Nat.lt_of_lt_of_le hsl hbox.below.size
  have HA : Hid (AS W0 Wb xb yb S m FK FR M E V C last) := h.below hbox.below
  have HBD : Hid (BD 0 m C last) := hbd
  have HN : Hid (¬ (FK sb ∨ FR sb ∨ M sb)) := hsn
  have HB : Hid (Below w.heap.size w W0) := hbox.below
  have t0 := hbox.c0
  have t1 := hbox.c1
  have t2 := hbox.c2
  have t3 := hbox.c3
  have hbl := hbox.lt
  have HW0 : Hid (W0 = w.alloc (.cells #[.int .i64 2, .int .i64 A, .int .i64 B, .slice ao n c, .bool wh] 64)) := hW0
  have HT : Hid _ := ticks_any (nn := A) HA.out.sp c0 c1 (fun g => by
    rcases g with g | g
    · exact HN.out (.inl g)
    · exact HN.out (.inr (.inl g))) (by have := HBD.out.now; omega) (by have := HBD.out.arr; omega)
  clear h hbox hs0 hs1 hbd hsn hW0
  go_enter Tryz.func23, Tryz.ntmps23
  go_wp2_with fail
  rw [← HW0.out]
  generalize hbxe : w.heap.size = bx at *
  have HBE : Hid (w.heap.size = bx) := hbxe
  clear HW0 hbxe
  refine Calls.mono HT.out ?_
  rintro e w1 ⟨rfl, m', FK', FR', hsp, hmv, hn, ha⟩
  have HEND : Hid (SX w w1 Wb xb yb S m FK FR M E V C last) := ⟨m', FK', FR', M, E, V, C, last, SE.pre (by rw [HBE.out]; exact HB.out) (SE.of_side HA.out hsp hmv hn (by omega))⟩
  clear hsp hmv hn ha
  go_wp2
  go_ret
  exact ⟨rfl, HEND.out⟩

set_option maxRecDepth 100000 in
set_option maxHeartbeats 8000000 in
theorem step_told  (hS : SortC) {w : World} {Wb sb xb yb : Nat} {S : Sy} {m : Mc} {FK FR M E : Nat → Prop} {V : Nat → Value} {C : Nat → List Value} {last : Int} (h : AS w Wb xb yb S m FK FR M E V C last) (hbd : BD 0 m C last)
    (hs0 : w.cell? ⟨sb, 0, none⟩ = some (.pointer (some ⟨xb, 0, none⟩))) (hs1 : w.cell? ⟨sb, 1, none⟩ = some (.pointer (some ⟨yb, 0, none⟩))) (hsn : ¬ (FK sb ∨ FR sb ∨ M sb)) {A B : Int} {ao : Option Addr} {n c : Nat} {wh : Bool} :
    Calls Tryz.prog 23 #[.pointer (some ⟨Wb, 0, none⟩), .pointer (some ⟨sb, 0, none⟩), .agg #[.int .i64 4, .int .i64 A, .int .i64 B, .slice ao n c, .bool wh]] w fun e w' => e = .returned (.bool true) ∧ SX w w' Wb xb yb S m FK FR M E V C last := by
  obtain ⟨W0, hW0⟩ : ∃ W0, W0 = w.alloc (.cells #[.int .i64 4, .int .i64 A, .int .i64 B, .slice ao n c, .bool wh] 64) := ⟨_, rfl⟩
  have hbox := opbox w 4 A B ao n c wh
  rw [← hW0] at hbox
  have hsl : sb < w.heap.size := World.block_lt_of_cell? w ⟨sb, 0, none⟩ hs0
  have c0 : W0.cell? ⟨sb, 0, none⟩ = some (.pointer (some ⟨xb, 0, none⟩)) := (hbox.below.cell (p := ⟨sb, 0, none⟩) hsl).trans hs0
  have c1 : W0.cell? ⟨sb, 1, none⟩ = some (.pointer (some ⟨yb, 0, none⟩)) := (hbox.below.cell (p := ⟨sb, 1, none⟩) hsl).trans hs1
  have hsl0 : sb < W0.heap.size := Nat.lt_of_lt_of_le hsl hbox.below.size
  have HA : Hid (AS W0 Wb xb yb S m FK FR M E V C last) := h.below hbox.below
  have HBD : Hid (BD 0 m C last) := hbd
  have HN : Hid (¬ (FK sb ∨ FR sb ∨ M sb)) := hsn
  have HB : Hid (Below w.heap.size w W0) := hbox.below
  have t0 := hbox.c0
  have t1 := hbox.c1
  have t2 := hbox.c2
  have t3 := hbox.c3
  have hbl := hbox.lt
  have HW0 : Hid (W0 = w.alloc (.cells #[.int .i64 4, .int .i64 A, .int .i64 B, .slice ao n c, .bool wh] 64)) := hW0
  have HT : Hid _ := told_any hS HA.out HBD.out c0 c1 (fun g => HN.out (.inl g))
  clear h hbox hs0 hs1 hbd hsn hW0
  go_enter Tryz.func23, Tryz.ntmps23
  go_wp2_with fail
  rw [← HW0.out]
  generalize hbxe : w.heap.size = bx at *
  have HBE : Hid (w.heap.size = bx) := hbxe
  clear HW0 hbxe
  refine Calls.mono HT.out ?_
  rintro e w1 ⟨rfl, FK', FR', M', E', V', C', hse⟩
  have HEND : Hid (SX w w1 Wb xb yb S m FK FR M E V C last) := ⟨m, FK', FR', M', E', V', C', last - 1, SE.pre (by rw [HBE.out]; exact HB.out) hse⟩
  clear hse
  go_wp2
  go_ret
  exact ⟨rfl, HEND.out⟩

set_option maxRecDepth 100000 in
set_option maxHeartbeats 8000000 in
theorem step_look {w : World} {Wb sb xb yb : Nat} {S : Sy} {m : Mc} {FK FR M E : Nat → Prop} {V : Nat → Value} {C : Nat → List Value} {last : Int} (h : AS w Wb xb yb S m FK FR M E V C last) (hbd : BD 0 m C last)
    (hs0 : w.cell? ⟨sb, 0, none⟩ = some (.pointer (some ⟨xb, 0, none⟩))) (hs1 : w.cell? ⟨sb, 1, none⟩ = some (.pointer (some ⟨yb, 0, none⟩))) (hsn : ¬ (FK sb ∨ FR sb ∨ M sb)) {A B : Int} {ao : Option Addr} {n c : Nat} {wh : Bool} :
    Calls Tryz.prog 23 #[.pointer (some ⟨Wb, 0, none⟩), .pointer (some ⟨sb, 0, none⟩), .agg #[.int .i64 5, .int .i64 A, .int .i64 B, .slice ao n c, .bool wh]] w fun e w' => e = .returned (.bool true) ∧ SX w w' Wb xb yb S m FK FR M E V C last := by
  obtain ⟨W0, hW0⟩ : ∃ W0, W0 = w.alloc (.cells #[.int .i64 5, .int .i64 A, .int .i64 B, .slice ao n c, .bool wh] 64) := ⟨_, rfl⟩
  have hbox := opbox w 5 A B ao n c wh
  rw [← hW0] at hbox
  have hsl : sb < w.heap.size := World.block_lt_of_cell? w ⟨sb, 0, none⟩ hs0
  have c0 : W0.cell? ⟨sb, 0, none⟩ = some (.pointer (some ⟨xb, 0, none⟩)) := (hbox.below.cell (p := ⟨sb, 0, none⟩) hsl).trans hs0
  have c1 : W0.cell? ⟨sb, 1, none⟩ = some (.pointer (some ⟨yb, 0, none⟩)) := (hbox.below.cell (p := ⟨sb, 1, none⟩) hsl).trans hs1
  have hsl0 : sb < W0.heap.size := Nat.lt_of_lt_of_le hsl hbox.below.size
  have HA : Hid (AS W0 Wb xb yb S m FK FR M E V C last) := h.below hbox.below
  have HBD : Hid (BD 0 m C last) := hbd
  have HN : Hid (¬ (FK sb ∨ FR sb ∨ M sb)) := hsn
  have HB : Hid (Below w.heap.size w W0) := hbox.below
  have t0 := hbox.c0
  have t1 := hbox.c1
  have t2 := hbox.c2
  have t3 := hbox.c3
  have hbl := hbox.lt
  have HW0 : Hid (W0 = w.alloc (.cells #[.int .i64 5, .int .i64 A, .int .i64 B, .slice ao n c, .bool wh] 64)) := hW0
  have HT : Hid _ := kg_look HA.out.sp.k
  clear h hbox hbd hsn hW0
  go_enter Tryz.func23, Tryz.ntmps23
  go_wp2_with fail
  rw [← HW0.out]
  generalize hbxe : w.heap.size = bx at *
  have HBE : Hid (w.heap.size = bx) := hbxe
  clear HW0 hbxe
  refine Calls.mono HT.out ?_
  rintro e w1 ⟨rfl, hk, hf⟩
  obtain ⟨q1, q2, q3, q4, q5⟩ := HA.out.sp.kmove hf
  have d1 : w1.cell? ⟨sb, 1, none⟩ = some (.pointer (some ⟨yb, 0, none⟩)) := (hf.cell hsl0 (fun g => HN.out (.inl g))).trans c1
  have hsl1 : sb < w1.heap.size := Nat.lt_of_lt_of_le hsl0 hf.size
  obtain ⟨y3, y4, hyl⟩ := q1.cells
  have HEND : Hid (SX w w1 Wb xb yb S m FK FR M E V C last) := ⟨m, _, FR, M, E, V, C, last, SE.pre (by rw [HBE.out]; exact HB.out) (SE.of_side HA.out ⟨hk, q1, HA.out.sp.lk, q2, q3, q4⟩ q5 (by omega) (by omega))⟩
  have HEND2 : Hid (∀ w2, Below w1.heap.size w1 w2 → SX w w2 Wb xb yb S m FK FR M E V C last) := by
    intro w2 hb2
    obtain ⟨m', K', R', M', E', V', C', l', hse⟩ := HEND.out
    exact ⟨m', K', R', M', E', V', C', l', hse.below hb2⟩
  clear hk hf q1 q2 q3 q4 q5 c0 c1 t0 t1 t2 t3 HEND hs0 hs1
  generalize m.now = mn at *
  generalize m.idle = mi at *
  have e1 : (mn == mn) = true := by simp
  have e2 : (mi == mi) = true := by simp
  go_wp2_with fail
  go_quiet (fail)
  go_wp2
  go_ret
  exact ⟨rfl, HEND2.out _ (by first | exact below_drewM (below_alloc1 _ _) _ | exact below_alloc1 _ _)⟩

set_option maxRecDepth 100000 in
set_option maxHeartbeats 8000000 in
theorem step_holds_in  {r : Nat} (hr : r < 8) {w : World} {Wb sb xb yb : Nat} {S : Sy} {m : Mc} {FK FR M E : Nat → Prop} {V : Nat → Value} {C : Nat → List Value} {last : Int} (h : AS w Wb xb yb S m FK FR M E V C last) (hbd : BD 0 m C last)
    (hs0 : w.cell? ⟨sb, 0, none⟩ = some (.pointer (some ⟨xb, 0, none⟩))) (hs1 : w.cell? ⟨sb, 1, none⟩ = some (.pointer (some ⟨yb, 0, none⟩))) (hsn : ¬ (FK sb ∨ FR sb ∨ M sb)) {B : Int} {ao : Option Addr} {n c : Nat} {wh : Bool} :
    Calls Tryz.prog 23 #[.pointer (some ⟨Wb, 0, none⟩), .pointer (some ⟨sb, 0, none⟩), .agg #[.int .i64 3, .int .i64 (r : Int), .int .i64 B, .slice ao n c, .bool wh]] w fun e w' => e = .returned (.bool true) ∧ SX w w' Wb xb yb S m FK FR M E V C last := by
  obtain ⟨W0, hW0⟩ : ∃ W0, W0 = w.alloc (.cells #[.int .i64 3, .int .i64 (r : Int), .int .i64 B, .slice ao n c, .bool wh] 64) := ⟨_, rfl⟩
  have hbox := opbox w 3 (r : Int) B ao n c wh
  rw [← hW0] at hbox
  have hsl : sb < w.heap.size := World.block_lt_of_cell? w ⟨sb, 0, none⟩ hs0
  have c0 : W0.cell? ⟨sb, 0, none⟩ = some (.pointer (some ⟨xb, 0, none⟩)) := (hbox.below.cell (p := ⟨sb, 0, none⟩) hsl).trans hs0
  have c1 : W0.cell? ⟨sb, 1, none⟩ = some (.pointer (some ⟨yb, 0, none⟩)) := (hbox.below.cell (p := ⟨sb, 1, none⟩) hsl).trans hs1
  have hsl0 : sb < W0.heap.size := Nat.lt_of_lt_of_le hsl hbox.below.size
  have HA : Hid (AS W0 Wb xb yb S m FK FR M E V C last) := h.below hbox.below
  have HBD : Hid (BD 0 m C last) := hbd
  have HN : Hid (¬ (FK sb ∨ FR sb ∨ M sb)) := hsn
  have HB : Hid (Below w.heap.size w W0) := hbox.below
  have t0 := hbox.c0
  have t1 := hbox.c1
  have t2 := hbox.c2
  have t3 := hbox.c3
  have hbl := hbox.lt
  have HW0 : Hid (W0 = w.alloc (.cells #[.int .i64 3, .int .i64 (r : Int), .int .i64 B, .slice ao n c, .bool wh] 64)) := hW0
  have hbFK : ¬ FK w.heap.size := fun g => by have := h.sp.loK _ g; omega
  have HT : Hid (∀ w1, Below W0.heap.size W0 w1 → Calls Tryz.prog 34 #[.pointer (some ⟨xb, 0, none⟩), .int .i64 (r : Int)] w1 fun e w' => e = .returned (.tuple #[.int .i64 (m.hold r), .int .i64 0]) ∧ (w'.cell? ⟨sb, 0, none⟩ = some (.pointer (some ⟨xb, 0, none⟩)) ∧ w'.cell? ⟨w.heap.size, 1, none⟩ = some (.int .i64 (r : Int))) ∧ Hid ((w'.cell? ⟨sb, 1, none⟩ = some (.pointer (some ⟨yb, 0, none⟩)) ∧ w'.cell? ⟨w.heap.size, 1, none⟩ = some (.int .i64 (r : Int))) ∧ sb < w'.heap.size ∧ w.heap.size < w'.heap.size ∧ ∃ FK', SP w' xb yb S m FK' FR ∧ SPM W0 w' FK FR FK' FR)) := by
    intro w1 hb1
    have ha := HA.out.below hb1
    refine Calls.mono (kg_holds ha.sp.k hr) ?_
    rintro e w' ⟨rfl, hk, hf⟩
    obtain ⟨q1, q2, q3, q4, q5⟩ := ha.sp.kmove hf
    have hz := hb1.size
    have a0 : w'.cell? ⟨sb, 0, none⟩ = some (.pointer (some ⟨xb, 0, none⟩)) := (hf.cell (by omega) (fun g => HN.out (.inl g))).trans ((hb1.cell (p := ⟨sb, 0, none⟩) hsl0).trans c0)
    have a1 : w'.cell? ⟨sb, 1, none⟩ = some (.pointer (some ⟨yb, 0, none⟩)) := (hf.cell (by omega) (fun g => HN.out (.inl g))).trans ((hb1.cell (p := ⟨sb, 1, none⟩) hsl0).trans c1)
    have a2 : w'.cell? ⟨w.heap.size, 1, none⟩ = some (.int .i64 (r : Int)) := (hf.cell (by omega) hbFK).trans ((hb1.cell (p := ⟨w.heap.size, 1, none⟩) hbl).trans t1)
    have hz2 := hf.size
    exact ⟨rfl, ⟨a0, a2⟩, ⟨a1, a2⟩, by omega, by omega, _, ⟨hk, q1, ha.sp.lk, q2, q3, q4⟩, ⟨(Fr.of_below _ hb1).then q5.fr, fun q g => by
      rcases q5.fk q g with e | e
      · exact .inl e
      · exact .inr (by omega), fun q g => .inl g⟩⟩
  clear h hbox hbd hsn hW0 hbFK
  go_enter Tryz.func23, Tryz.ntmps23
  go_wp2_with fail
  rw [← HW0.out]
  generalize hbxe : w.heap.size = bx at *
  have HBE : Hid (w.heap.size = bx) := hbxe
  clear HW0 hbxe
  generalize hhv : m.hold r = hv at *
  have HHV : Hid (m.hold r = hv) := hhv
  clear hhv
  go_region_held (fun w' => w'.cell? ⟨sb, 0, none⟩ = some (.pointer (some ⟨xb, 0, none⟩)) ∧ w'.cell? ⟨bx, 1, none⟩ = some (.int .i64 (r : Int))) (first | go_keep | exact hcells) (first | (go_at_call 34; refine Calls.mono (HT.out _ (below_drewM (Below.refl _ _) _)) ?_; rintro e w1 ⟨rfl, hcells, hrest⟩))
  obtain ⟨⟨d1, u1⟩, hsl1, hbl1, FK', hsp, hmv⟩ := hrest.out
  have HR : Hid (∀ w2, Below w1.heap.size w1 w2 → Calls Tryz.prog 48 #[.pointer (some ⟨yb, 0, none⟩), .int .i64 (r : Int)] w2 fun e w' => e = .returned (.tuple #[.int .i64 hv, .int .i64 0]) ∧ (w'.cell? ⟨sb, 1, none⟩ = some (.pointer (some ⟨yb, 0, none⟩)) ∧ w'.cell? ⟨bx, 1, none⟩ = some (.int .i64 (r : Int))) ∧ Hid (SX w w' Wb xb yb S m FK FR M E V C last)) := by
    intro w2 hb2
    have hsp2 := hsp.below hb2
    refine Calls.mono (rg_holds hsp2.r hsp2.k.ok hsp2.lk (by have := HBD.out.arr; omega) hr) ?_
    rintro e w' ⟨he, hb3⟩
    have hb13 : Below w1.heap.size w1 w' := hb2.trans (hb3.mono hb2.size)
    refine ⟨by rw [he, HHV.out], ⟨(hb13.cell (p := ⟨sb, 1, none⟩) hsl1).trans d1, (hb13.cell (p := ⟨bx, 1, none⟩) hbl1).trans u1⟩, ?_⟩
    exact ⟨m, FK', FR, M, E, V, C, last, (SE.pre (by rw [HBE.out]; exact HB.out) (SE.of_side HA.out hsp hmv (by omega) (by omega))).below hb13⟩
  clear hcells hrest hsp hmv HT
  go_wp2_with fail
  go_region_held (fun w' => w'.cell? ⟨sb, 1, none⟩ = some (.pointer (some ⟨yb, 0, none⟩)) ∧ w'.cell? ⟨bx, 1, none⟩ = some (.int .i64 (r : Int))) (first | go_keep | exact hcells2) (first | (go_at_call 48; refine Calls.mono (HR.out _ (below_drewM (Below.refl _ _) _)) ?_; rintro e w2 ⟨rfl, hcells2, hend⟩))
  clear hcells2 HR
  have e1 : ((hv : Int) == hv) = true := by simp
  go_wp2
  go_ret
  exact ⟨rfl, hend.out⟩

theorem rholds_out2 {w : World} {kb : Nat} {r : Int} (hr : r < 0 ∨ 7 < r) :
    Calls Tryz.prog 48 #[.pointer (some ⟨kb, 0, none⟩), .int .i64 r] w fun e w' => e = .returned (.tuple #[.int .i64 0, .int .i64 5]) ∧ Below w.heap.size w w' := by
  refine Calls.mono (rholds_out (w := w) (kb := kb) hr) ?_
  rintro e w' ⟨he, hw⟩
  exact ⟨he, by rw [hw]; exact Below.refl _ _⟩

set_option maxRecDepth 100000 in
set_option maxHeartbeats 8000000 in
theorem step_holds_out  {w : World} {Wb sb xb yb : Nat} {S : Sy} {m : Mc} {FK FR M E : Nat → Prop} {V : Nat → Value} {C : Nat → List Value} {last : Int} (h : AS w Wb xb yb S m FK FR M E V C last) (hbd : BD 0 m C last)
    (hs0 : w.cell? ⟨sb, 0, none⟩ = some (.pointer (some ⟨xb, 0, none⟩))) (hs1 : w.cell? ⟨sb, 1, none⟩ = some (.pointer (some ⟨yb, 0, none⟩))) (hsn : ¬ (FK sb ∨ FR sb ∨ M sb)) {A B : Int} {ao : Option Addr} {n c : Nat} {wh : Bool} (hr : A < 0 ∨ 7 < A) :
    Calls Tryz.prog 23 #[.pointer (some ⟨Wb, 0, none⟩), .pointer (some ⟨sb, 0, none⟩), .agg #[.int .i64 3, .int .i64 A, .int .i64 B, .slice ao n c, .bool wh]] w fun e w' => e = .returned (.bool true) ∧ SX w w' Wb xb yb S m FK FR M E V C last := by
  obtain ⟨W0, hW0⟩ : ∃ W0, W0 = w.alloc (.cells #[.int .i64 3, .int .i64 A, .int .i64 B, .slice ao n c, .bool wh] 64) := ⟨_, rfl⟩
  have hbox := opbox w 3 A B ao n c wh
  rw [← hW0] at hbox
  have hsl : sb < w.heap.size := World.block_lt_of_cell? w ⟨sb, 0, none⟩ hs0
  have c0 : W0.cell? ⟨sb, 0, none⟩ = some (.pointer (some ⟨xb, 0, none⟩)) := (hbox.below.cell (p := ⟨sb, 0, none⟩) hsl).trans hs0
  have c1 : W0.cell? ⟨sb, 1, none⟩ = some (.pointer (some ⟨yb, 0, none⟩)) := (hbox.below.cell (p := ⟨sb, 1, none⟩) hsl).trans hs1
  have hsl0 : sb < W0.heap.size := Nat.lt_of_lt_of_le hsl hbox.below.size
  have HA : Hid (AS W0 Wb xb yb S m FK FR M E V C last) := h.below hbox.below
  have HBD : Hid (BD 0 m C last) := hbd
  have HN : Hid (¬ (FK sb ∨ FR sb ∨ M sb)) := hsn
  have HB : Hid (Below w.heap.size w W0) := hbox.below
  have t0 := hbox.c0
  have t1 := hbox.c1
  have t2 := hbox.c2
  have t3 := hbox.c3
  have hbl := hbox.lt
  have HW0 : Hid (W0 = w.alloc (.cells #[.int .i64 3, .int .i64 A, .int .i64 B, .slice ao n c, .bool wh] 64)) := hW0
  have hbFK : ¬ FK w.heap.size := fun g => by have := h.sp.loK _ g; omega
  have HT : Hid (∀ w1, Below W0.heap.size W0 w1 → Calls Tryz.prog 34 #[.pointer (some ⟨xb, 0, none⟩), .int .i64 A] w1 fun e w' => e = .returned (.tuple #[.int .i64 0, .int .i64 5]) ∧ (w'.cell? ⟨sb, 0, none⟩ = some (.pointer (some ⟨xb, 0, none⟩)) ∧ w'.cell? ⟨w.heap.size, 1, none⟩ = some (.int .i64 A)) ∧ Hid ((w'.cell? ⟨sb, 1, none⟩ = some (.pointer (some ⟨yb, 0, none⟩)) ∧ w'.cell? ⟨w.heap.size, 1, none⟩ = some (.int .i64 A)) ∧ sb < w'.heap.size ∧ w.heap.size < w'.heap.size ∧ ∃ FK', SP w' xb yb S m FK' FR ∧ SPM W0 w' FK FR FK' FR)) := by
    intro w1 hb1
    have ha := HA.out.below hb1
    refine Calls.mono (kg_holds_out ha.sp.k hr) ?_
    rintro e w' ⟨rfl, hk, hf⟩
    obtain ⟨q1, q2, q3, q4, q5⟩ := ha.sp.kmove hf
    have hz := hb1.size
    have a0 : w'.cell? ⟨sb, 0, none⟩ = some (.pointer (some ⟨xb, 0, none⟩)) := (hf.cell (by omega) (fun g => HN.out (.inl g))).trans ((hb1.cell (p := ⟨sb, 0, none⟩) hsl0).trans c0)
    have a1 : w'.cell? ⟨sb, 1, none⟩ = some (.pointer (some ⟨yb, 0, none⟩)) := (hf.cell (by omega) (fun g => HN.out (.inl g))).trans ((hb1.cell (p := ⟨sb, 1, none⟩) hsl0).trans c1)
    have a2 : w'.cell? ⟨w.heap.size, 1, none⟩ = some (.int .i64 A) := (hf.cell (by omega) hbFK).trans ((hb1.cell (p := ⟨w.heap.size, 1, none⟩) hbl).trans t1)
    have hz2 := hf.size
    exact ⟨rfl, ⟨a0, a2⟩, ⟨a1, a2⟩, by omega, by omega, _, ⟨hk, q1, ha.sp.lk, q2, q3, q4⟩, ⟨(Fr.of_below _ hb1).then q5.fr, fun q g => by
      rcases q5.fk q g with e | e
      · exact .inl e
      · exact .inr (by omega), fun q g => .inl g⟩⟩
  clear h hbox hbd hsn hW0 hbFK
  go_enter Tryz.func23, Tryz.ntmps23
  go_wp2_with fail
  rw [← HW0.out]
  generalize hbxe : w.heap.size = bx at *
  have HBE : Hid (w.heap.size = bx) := hbxe
  clear HW0 hbxe
  go_region_held (fun w' => w'.cell? ⟨sb, 0, none⟩ = some (.pointer (some ⟨xb, 0, none⟩)) ∧ w'.cell? ⟨bx, 1, none⟩ = some (.int .i64 A)) (first | go_keep | exact hcells) (first | (go_at_call 34; refine Calls.mono (HT.out _ (below_drewM (Below.refl _ _) _)) ?_; rintro e w1 ⟨rfl, hcells, hrest⟩))
  obtain ⟨⟨d1, u1⟩, hsl1, hbl1, FK', hsp, hmv⟩ := hrest.out
  have HR : Hid (∀ w2, Below w1.heap.size w1 w2 → Calls Tryz.prog 48 #[.pointer (some ⟨yb, 0, none⟩), .int .i64 A] w2 fun e w' => e = .returned (.tuple #[.int .i64 0, .int .i64 5]) ∧ (w'.cell? ⟨sb, 1, none⟩ = some (.pointer (some ⟨yb, 0, none⟩)) ∧ w'.cell? ⟨bx, 1, none⟩ = some (.int .i64 A)) ∧ Hid (SX w w' Wb xb yb S m FK FR M E V C last)) := by
    intro w2 hb2
    have hsp2 := hsp.below hb2
    refine Calls.mono (rholds_out2 (w := w2) (kb := yb) hr) ?_
    rintro e w' ⟨he, hb3⟩
    have hb13 : Below w1.heap.size w1 w' := hb2.trans (hb3.mono hb2.size)
    refine ⟨he, ⟨(hb13.cell (p := ⟨sb, 1, none⟩) hsl1).trans d1, (hb13.cell (p := ⟨bx, 1, none⟩) hbl1).trans u1⟩, ?_⟩
    exact ⟨m, FK', FR, M, E, V, C, last, (SE.pre (by rw [HBE.out]; exact HB.out) (SE.of_side HA.out hsp hmv (by omega) (by omega))).below hb13⟩
  clear hcells hrest hsp hmv HT
  go_wp2_with fail
  go_region_held (fun w' => w'.cell? ⟨sb, 1, none⟩ = some (.pointer (some ⟨yb, 0, none⟩)) ∧ w'.cell? ⟨bx, 1, none⟩ = some (.int .i64 A)) (first | go_keep | exact hcells2) (first | (go_at_call 48; refine Calls.mono (HR.out _ (below_drewM (Below.refl _ _) _)) ?_; rintro e w2 ⟨rfl, hcells2, hend⟩))
  clear hcells2 HR
  go_wp2
  go_ret
  exact ⟨rfl, hend.out⟩

end Go.Proofs.YtdabcflpcklfiaaGreat
