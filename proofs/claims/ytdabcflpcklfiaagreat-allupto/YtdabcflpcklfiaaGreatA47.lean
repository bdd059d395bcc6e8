import Derived.Test.YtdabcflpcklfiaaGreatA46
/- The law: a step at which a job arrives. -/
namespace Go.Proofs.YtdabcflpcklfiaaGreat
open Go.RowKit Cad

/-- Blocks that a step may read: they stand in another world. -/
theorem cells_kept {w w' : World} {sb bx xb yb n c : Nat} {A B : Int} {ao : Option Addr} (h : w.cell? ⟨sb, 0, none⟩ = some (.pointer (some ⟨xb, 0, none⟩)) ∧ w.cell? ⟨sb, 1, none⟩ = some (.pointer (some ⟨yb, 0, none⟩)) ∧ w.cell? ⟨bx, 1, none⟩ = some (.int .i64 A) ∧ w.cell? ⟨bx, 2, none⟩ = some (.int .i64 B) ∧ w.cell? ⟨bx, 3, none⟩ = some (.slice ao n c)) (h1 : w'.heap[sb]? = w.heap[sb]?) (h2 : w'.heap[bx]? = w.heap[bx]?) : w'.cell? ⟨sb, 0, none⟩ = some (.pointer (some ⟨xb, 0, none⟩)) ∧ w'.cell? ⟨sb, 1, none⟩ = some (.pointer (some ⟨yb, 0, none⟩)) ∧ w'.cell? ⟨bx, 1, none⟩ = some (.int .i64 A) ∧ w'.cell? ⟨bx, 2, none⟩ = some (.int .i64 B) ∧ w'.cell? ⟨bx, 3, none⟩ = some (.slice ao n c) :=
  ⟨(cell_same h1).trans h.1, (cell_same h1).trans h.2.1, (cell_same h2).trans h.2.2.1, (cell_same h2).trans h.2.2.2.1, (cell_same h2).trans h.2.2.2.2⟩

/-- The law's lists behind returnedInts, beside the side. -/
theorem arr_end {w w' : World} {Wb xb yb qb n : Nat} {S : Sy} {m m' : Mc} {FK FR M E FK' FR' : Nat → Prop} {V : Nat → Value} {C : Nat → List Value} {last : Int} {v' : Value} {w4 : World} (h : AS w Wb xb yb S m FK FR M E V C last) (hsp : SP w4 xb yb S m' FK' FR') (hm : SPM w w4 FK FR FK' FR')
    (hq : w.heap.size ≤ qb ∧ qb < w4.heap.size) (hqk : ¬ FK' qb ∧ ¬ FR' qb) (hlm : LM (Nx M w4.heap.size w'.heap.size) w' Wb (upd V 5 v') (upd C 5 (C 5 ++ [.slice (some ⟨qb, 0, none⟩) (n + 1) (n + 1)])) last) (hle : LE (fun q => E q ∨ q = qb) w' (upd C 5 (C 5 ++ [.slice (some ⟨qb, 0, none⟩) (n + 1) (n + 1)]))) (hf : Fr (fun q => M q ∨ q = qb) w4 w')
    (hn : m'.now ≤ m.now + 300) (ha : m'.arrd ≤ m.arrd + 1) :
    SE 1 w w' Wb xb yb S m m' FK FR M E FK' FR' (Nx M w4.heap.size w'.heap.size) (fun q => E q ∨ q = qb) V (upd V 5 v') C (upd C 5 (C 5 ++ [.slice (some ⟨qb, 0, none⟩) (n + 1) (n + 1)])) last last := by
  have h4 := h.side hsp hm
  have hz := hm.fr.size
  have hz' := hf.size
  have hqM : ¬ M qb := fun g => by have := h.loM qb g; omega
  have x1 : Dis FK' (fun q => M q ∨ q = qb) := fun q h1 h2 => by
    rcases h2 with e | e
    · exact h4.d2 q h1 e
    · exact hqk.1 (e ▸ h1)
  have x2 : Dis FR' (fun q => M q ∨ q = qb) := fun q h1 h2 => by
    rcases h2 with e | e
    · exact h4.d4 q h1 e
    · exact hqk.2 (e ▸ h1)
  have x3 : ∀ {G : Nat → Prop}, Lo G w4.heap.size → Dis G M → Dis G (Nx M w4.heap.size w'.heap.size) := fun hlo hd q h1 h2 => by
    rcases h2 with e | e
    · exact hd q h1 e
    · have := hlo q h1; omega
  refine ⟨⟨hsp.other hf x1 x2, hlm, hle, fun q h1 h2 => ?_, x3 hsp.loK h4.d2, fun q h1 h2 => ?_, x3 hsp.loR h4.d4, fun q h1 h2 => ?_, h4.loM.nx hz', fun q hq' => ?_⟩, ⟨?_, hm.fk, hm.fy, fun q g => ?_, fun q g => ?_⟩, ⟨upd_other _ _ (by decide), upd_other _ _ (by decide)⟩, fun i hi => ?_, by omega, by omega, by omega⟩
  · rcases h1 with e | e
    · rcases h2 with g | g
      · exact h4.d1 q e g
      · exact hqM (g ▸ e)
    · rcases h2 with g | g
      · have := h4.loE q g; omega
      · omega
  · rcases h2 with g | g
    · exact h4.d3 q h1 g
    · exact hqk.1 (g ▸ h1)
  · rcases h2 with g | g
    · exact h4.d5 q h1 g
    · exact hqk.2 (g ▸ h1)
  · rcases hq' with g | g
    · have := h4.loE q g; omega
    · omega
  · refine (hm.fr.mono (fun q g => ?_)).trans hf (fun q g => ?_)
    · rcases g with g | g
      · exact .inl g
      · exact .inr (.inl g)
    · rcases g with g | g
      · exact .inl (.inr (.inr g))
      · exact .inr (by omega)
  · rcases g with g | g
    · exact .inl g
    · exact .inr (by omega)
  · rcases g with g | g
    · exact .inl g
    · exact .inr (by omega)
  · by_cases e : i = 5
    · subst e
      rw [upd_same, List.length_append, List.length_singleton]
      omega
    · rw [upd_other _ _ e]
      omega

set_option maxRecDepth 100000 in
set_option maxHeartbeats 8000000 in
theorem step_arrive {w : World} {Wb sb xb yb : Nat} {S : Sy} {m : Mc} {FK FR M E : Nat → Prop} {V : Nat → Value} {C : Nat → List Value} {last : Int} (h : AS w Wb xb yb S m FK FR M E V C last) (hbd : BD 0 m C last)
    (hs0 : w.cell? ⟨sb, 0, none⟩ = some (.pointer (some ⟨xb, 0, none⟩))) (hs1 : w.cell? ⟨sb, 1, none⟩ = some (.pointer (some ⟨yb, 0, none⟩))) (hsn : ¬ (FK sb ∨ FR sb ∨ M sb)) {A B : Int} {ao : Option Addr} {n c : Nat} {wh : Bool} {R : Nat → Int} (hL : OpL w FK FR M ao n R) :
    Calls Tryz.prog 23 #[.pointer (some ⟨Wb, 0, none⟩), .pointer (some ⟨sb, 0, none⟩), .agg #[.int .i64 1, .int .i64 A, .int .i64 B, .slice ao n c, .bool wh]] w fun e w' => e = .returned (.bool true) ∧ SX w w' Wb xb yb S m FK FR M E V C last := by
  obtain ⟨W0, hW0⟩ : ∃ W0, W0 = w.alloc (.cells #[.int .i64 1, .int .i64 A, .int .i64 B, .slice ao n c, .bool wh] 64) := ⟨_, rfl⟩
  have hbox := opbox w 1 A B ao n c wh
  rw [← hW0] at hbox
  have hsl : sb < w.heap.size := World.block_lt_of_cell? w ⟨sb, 0, none⟩ hs0
  have c0 : W0.cell? ⟨sb, 0, none⟩ = some (.pointer (some ⟨xb, 0, none⟩)) := (hbox.below.cell (p := ⟨sb, 0, none⟩) hsl).trans hs0
  have c1 : W0.cell? ⟨sb, 1, none⟩ = some (.pointer (some ⟨yb, 0, none⟩)) := (hbox.below.cell (p := ⟨sb, 1, none⟩) hsl).trans hs1
  have hsl0 : sb < W0.heap.size := Nat.lt_of_lt_of_le hsl hbox.below.size
  have HA : Hid (AS W0 Wb xb yb S m FK FR M E V C last) := h.below hbox.below
  have HBD : Hid (BD 0 m C last) := hbd
  have HN : Hid (¬ (FK sb ∨ FR sb ∨ M sb)) := hsn
  have HB : Hid (Below w.heap.size w W0) := hbox.below
  have t0 := hbox.c0
  have t1 := hbox.c1
  have t2 := hbox.c2
  have t3 := hbox.c3
  have hbl := hbox.lt
  have HW0 : Hid (W0 = w.alloc (.cells #[.int .i64 1, .int .i64 A, .int .i64 B, .slice ao n c, .bool wh] 64)) := hW0
  have hn8 := hL.1
  have hbFK : ¬ (FK w.heap.size ∨ FR w.heap.size ∨ M w.heap.size) := fun g => by
    rcases g with g | g | g
    · have := h.sp.loK _ g; omega
    · have := h.sp.loR _ g; omega
    · have := h.loM _ g; omega
  have HBN : Hid (¬ (FK w.heap.size ∨ FR w.heap.size ∨ M w.heap.size)) := hbFK
  have HL0 : Hid (1 ≤ n → ∃ rb rf, ao = some ⟨rb, rf, none⟩ ∧ rb < W0.heap.size ∧ IntsAt W0 rb rf n R ∧ ¬ (FK rb ∨ FR rb ∨ M rb)) := fun h1 => by
    obtain ⟨rb, rf, e1, e2, e3, e4⟩ := hL.2 h1
    exact ⟨rb, rf, e1, Nat.lt_of_lt_of_le e2 hbox.below.size, fun q hq => (hbox.below.cell (p := ⟨rb, rf + q, none⟩) e2).trans (e3 q hq), e4⟩
  have HC0 : Hid (W0.cell? ⟨sb, 0, none⟩ = some (.pointer (some ⟨xb, 0, none⟩)) ∧ W0.cell? ⟨sb, 1, none⟩ = some (.pointer (some ⟨yb, 0, none⟩)) ∧ W0.cell? ⟨w.heap.size, 1, none⟩ = some (.int .i64 A) ∧ W0.cell? ⟨w.heap.size, 2, none⟩ = some (.int .i64 B) ∧ W0.cell? ⟨w.heap.size, 3, none⟩ = some (.slice ao n c)) := ⟨c0, c1, t1, t2, t3⟩
  have HLI : Hid _ := lentInts_any ao n c R W0 hn8 (fun h1 => by
    obtain ⟨rb, rf, e1, e2, e3, _⟩ := HL0.out h1
    exact ⟨rb, rf, e1, e2, e3⟩)
  clear h hbox hbd hsn hW0 hbFK hL
  go_enter Tryz.func23, Tryz.ntmps23
  go_wp2_with fail
  rw [← HW0.out]
  generalize hbxe : w.heap.size = bx at *
  have HBE : Hid (w.heap.size = bx) := hbxe
  clear HW0 hbxe
  refine Calls.mono HLI.out ?_
  rintro e w1 ⟨rfl, hq, hb1⟩
  have hsz1 := hb1.size
  have hql : W0.heap.size < w1.heap.size := hq.lt
  have HB1 : Hid (Below W0.heap.size W0 w1) := hb1
  have HQ : Hid (w1.rowIs W0.heap.size 3 (n + 1) (lenf R n)) := hq
  have hS1 := cells_kept HC0.out (hb1.block sb hsl0) (hb1.block bx hbl)
  have HS1 : Hid _ := hS1
  have HA1 : Hid (AS w1 Wb xb yb S m FK FR M E V C last) := HA.out.below hb1
  obtain ⟨s0, s1, s2, s3, s4⟩ := hS1
  have hsl1 : sb < w1.heap.size := by omega
  have hbl1 : bx < w1.heap.size := by omega
  have HQN : Hid (¬ (FK W0.heap.size ∨ FR W0.heap.size ∨ M W0.heap.size ∨ E W0.heap.size)) := fun g => by
    rcases g with g | g | g | g
    · have := HA.out.sp.loK _ g; omega
    · have := HA.out.sp.loR _ g; omega
    · have := HA.out.loM _ g; omega
    · have := HA.out.loE _ g; omega
  clear hq hb1 hs0 hs1 c0 c1 t0 t1 t2 t3 HLI HC0
  generalize hqe : W0.heap.size = qb at *
  have HQE : Hid (W0.heap.size = qb) := hqe
  clear hqe
  -- the program's kernel
  have HT : Hid (∀ wx, Below w1.heap.size w1 wx → Calls Tryz.prog 45 #[.pointer (some ⟨xb, 0, none⟩), .int .i64 A, .int .i64 B, .slice (some ⟨qb, 0, none⟩) n (n + 1)] wx fun e w' => e = .returned (.int .i64 (arrive S m A B (fun q => (numsL R n).getD q 0) n).2) ∧ (w'.cell? ⟨sb, 0, none⟩ = some (.pointer (some ⟨xb, 0, none⟩)) ∧ w'.cell? ⟨sb, 1, none⟩ = some (.pointer (some ⟨yb, 0, none⟩)) ∧ w'.cell? ⟨bx, 1, none⟩ = some (.int .i64 A) ∧ w'.cell? ⟨bx, 2, none⟩ = some (.int .i64 B) ∧ w'.cell? ⟨bx, 3, none⟩ = some (.slice ao n c)) ∧ Hid (KG (Nx FK wx.heap.size w'.heap.size) w' xb S (arrive S m A B (fun q => (numsL R n).getD q 0) n).1 ∧ Fr FK wx w' ∧ Below w1.heap.size w1 wx)) := by
    intro wx hbx
    have ha := HA1.out.below hbx
    have hz := hbx.size
    refine Calls.mono (kg_arrive ha.sp.k A B qb 0 n (n + 1) (fun q => (numsL R n).getD q 0) (some ⟨qb, 0, none⟩) (by have := HBD.out.arr; omega) (by omega) (fun _ => ⟨rfl, by omega, fun q hq => ?_⟩)) ?_
    · show wx.cell? ⟨qb, 0 + q, none⟩ = some (.int .i64 ((numsL R n).getD q 0))
      rw [Nat.zero_add, numsL_at hq]
      refine (hbx.cell (p := ⟨qb, q, none⟩) hql).trans ((HQ.out.cell (by omega)).trans ?_)
      unfold lenf
      rw [if_pos hq]
    · rintro e w' ⟨rfl, hk, hf⟩
      refine ⟨rfl, cells_kept (cells_kept HS1.out (hbx.block sb hsl1) (hbx.block bx hbl1)) (hf.block sb (by omega) (fun g => HN.out (.inl g))) (hf.block bx (by omega) (fun g => HBN.out (.inl g))), hk, hf, hbx⟩
  go_wp2_with fail
  go_region_held (fun w' => w'.cell? ⟨sb, 0, none⟩ = some (.pointer (some ⟨xb, 0, none⟩)) ∧ w'.cell? ⟨sb, 1, none⟩ = some (.pointer (some ⟨yb, 0, none⟩)) ∧ w'.cell? ⟨bx, 1, none⟩ = some (.int .i64 A) ∧ w'.cell? ⟨bx, 2, none⟩ = some (.int .i64 B) ∧ w'.cell? ⟨bx, 3, none⟩ = some (.slice ao n c)) (first | go_keep | exact hcells) (first | (go_at_call 45; refine Calls.mono (HT.out _ (below_drewM (Below.refl _ _) _)) ?_; rintro e w2 ⟨rfl, hcells, hrest⟩))
  obtain ⟨hk, hf, hbx⟩ := hrest.out
  have hb01 := hbx.size
  have ha := HA1.out.below hbx
  obtain ⟨q1, q2, q3, q4, q5⟩ := ha.sp.kmove hf
  have hm2 : SPM w1 w2 FK FR _ FR := SPM.trans ⟨Fr.of_below _ hbx, fun _ g => .inl g, fun _ g => .inl g⟩ q5
  have hz2 := hm2.fr.size
  have hqF : ¬ (FK qb ∨ FR qb) := fun g => HQN.out (by
    rcases g with g | g
    · exact .inl g
    · exact .inr (.inl g))
  have HQ2 : Hid (w2.rowIs qb 3 (n + 1) (lenf R n)) := HQ.out.of_block (hm2.fr.block qb hql hqF)
  have HL2 : Hid (1 ≤ n → ∃ rb rf, ao = some ⟨rb, rf, none⟩ ∧ rb < w2.heap.size ∧ IntsAt w2 rb rf n R ∧ ¬ (FK rb ∨ FR rb ∨ M rb)) := fun h1 => by
    obtain ⟨rb, rf, e1, e2, e3, e4⟩ := HL0.out h1
    have hb2 : w2.heap[rb]? = W0.heap[rb]? := (hm2.fr.block rb (by omega) (fun g => e4 (by
      rcases g with g | g
      · exact .inl g
      · exact .inr (.inl g)))).trans (HB1.out.block rb e2)
    exact ⟨rb, rf, e1, by omega, fun q hq => (cell_same hb2).trans (e3 q hq), e4⟩
  have HM2 : Hid _ := hm2
  have HS2 : Hid _ := hcells
  generalize Nx FK _ _ = FK1 at *
  have HR : Hid (∀ wy, Below w2.heap.size w2 wy → Calls Tryz.prog 46 #[.pointer (some ⟨yb, 0, none⟩), .int .i64 A, .int .i64 B, .slice ao n c] wy fun e w' => e = .returned (.int .i64 (arrive S m A B (fun q => (numsL R n).getD q 0) n).2) ∧ (w'.cell? ⟨sb, 0, none⟩ = some (.pointer (some ⟨xb, 0, none⟩)) ∧ w'.cell? ⟨sb, 1, none⟩ = some (.pointer (some ⟨yb, 0, none⟩)) ∧ w'.cell? ⟨bx, 1, none⟩ = some (.int .i64 A) ∧ w'.cell? ⟨bx, 2, none⟩ = some (.int .i64 B) ∧ w'.cell? ⟨bx, 3, none⟩ = some (.slice ao n c)) ∧ Hid (∃ FR1, SP w' xb yb S (arrive S m A B (fun q => (numsL R n).getD q 0) n).1 FK1 FR1 ∧ SPM w1 w' FK FR FK1 FR1 ∧ ¬ FR1 qb ∧ w'.rowIs qb 3 (n + 1) (lenf R n) ∧ (1 ≤ n → ∃ b off, ao = some ⟨b, off, none⟩ ∧ IntsAt w' b off n R))) := by
    intro wy hby
    have hra := rg_arrive (q1.below hby) HA1.out.sp.k.ok (by have := HBD.out.now; omega) (by have := HBD.out.arr; omega) (x := A) (jit := B) (ao := ao) (dc := c) (numsL R n) (fun h1 => by
      rw [numsL_len] at h1 ⊢
      obtain ⟨rb, rf, e1, e2, e3, _⟩ := HL2.out h1
      refine ⟨rb, rf, e1, Nat.lt_of_lt_of_le e2 hby.size, fun q hq => ?_⟩
      show wy.cell? ⟨rb, rf + q, none⟩ = some (.int .i64 ((numsL R n).getD q 0))
      rw [numsL_at hq]
      exact (hby.cell (p := ⟨rb, rf + q, none⟩) e2).trans (e3 q hq)) (by rw [numsL_len]; omega)
    rw [numsL_len] at hra
    refine Calls.mono hra ?_
    rintro e w' ⟨rfl, hr, hfr⟩
    have hzy := hby.size
    have hzw := hfr.size
    have hfy : Fr FR w2 w' := (Fr.of_below _ hby).then hfr
    have hm3 : SPM w2 w' FK1 FR FK1 (Nx FR wy.heap.size w'.heap.size) := ⟨hfy.mono (fun q g => .inr g), fun q g => .inl g, fun q g => by
      rcases g with g | g
      · exact .inl g
      · exact .inr (by omega)⟩
    refine ⟨rfl, cells_kept HS2.out (hfy.block sb (by omega) (fun g => HN.out (.inr (.inl g)))) (hfy.block bx (by omega) (fun g => HBN.out (.inr (.inl g)))), Nx FR wy.heap.size w'.heap.size, ⟨hk.other hfy q2, hr, lk_arrive HA1.out.sp.lk, ?_, q3.mono hfy.size, (q4.mono hby.size).nx hzw⟩, HM2.out.trans hm3, ?_, HQ2.out.of_block (hfy.block qb (by omega) (fun g => hqF (.inr g))), fun h1 => ?_⟩
    · exact (q2.symm.nx (q3.mono hby.size)).symm
    · rintro (g | g)
      · exact hqF (.inr g)
      · omega
    · obtain ⟨rb, rf, e1, e2, e3, e4⟩ := HL2.out h1
      exact ⟨rb, rf, e1, fun q hq => (hfy.cell e2 (fun g => e4 (.inr (.inl g)))).trans (e3 q hq)⟩
  have HFK1 : Hid (¬ FK1 qb) := fun g => by
    rcases HM2.out.fk qb g with e | e
    · exact hqF (.inl e)
    · omega
  obtain ⟨r0, r1, r2, r3, r4⟩ := hcells
  have hsl2 : sb < w2.heap.size := by omega
  have hbl2 : bx < w2.heap.size := by omega
  clear hrest hk hf hbx ha q1 q2 q3 q4 q5 hm2 HT hqF s0 s1 s2 s3 s4
  go_wp2_with fail
  go_region_held (fun w' => w'.cell? ⟨sb, 0, none⟩ = some (.pointer (some ⟨xb, 0, none⟩)) ∧ w'.cell? ⟨sb, 1, none⟩ = some (.pointer (some ⟨yb, 0, none⟩)) ∧ w'.cell? ⟨bx, 1, none⟩ = some (.int .i64 A) ∧ w'.cell? ⟨bx, 2, none⟩ = some (.int .i64 B) ∧ w'.cell? ⟨bx, 3, none⟩ = some (.slice ao n c)) (first | go_keep | exact hcells2) (first | (go_at_call 46; refine Calls.mono (HR.out _ (below_drewM (Below.refl _ _) _)) ?_; rintro e w3 ⟨rfl, hcells2, hrest2⟩))
  obtain ⟨FR1, hsp3, hm3, hqR, hq3, hL3⟩ := hrest2.out
  have hz3 := hm3.fr.size
  have h3 := HA1.out.side hsp3 hm3
  have HRI : Hid (∀ wz, Below w3.heap.size w3 wz → Calls Tryz.prog 21 #[.pointer (some ⟨Wb, 0, none⟩), .slice (some ⟨qb, 0, none⟩) (n + 1) (n + 1), .slice ao n c] wz fun e w' => e = .returned (.bool true) ∧ Hid (SX w w' Wb xb yb S m FK FR M E V C last)) := by
    intro wz hbz
    have hzz := hbz.size
    have hz4 := h3.below hbz
    refine Calls.mono (retInts2_any (cap := c) (ao := ao) (Z := R) hz4.lm hz4.le hn8 (hq3.of_block (hbz.block qb (by omega))) (fun g => HQN.out (.inr (.inr (.inl g)))) (fun g => HQN.out (.inr (.inr (.inr g)))) hz4.d1 (by have := HBD.out.len 5 (by omega); omega) (fun h1 => ?_)) ?_
    · obtain ⟨b, off, e1, e2⟩ := hL3 h1
      refine ⟨b, off, e1, fun q hq => ?_⟩
      have := World.block_lt_of_cell? w3 ⟨b, off + q, none⟩ (e2 q hq)
      exact (hbz.cell (p := ⟨b, off + q, none⟩) this).trans (e2 q hq)
    · rintro e w' ⟨rfl, v', hlm, hle, hfr⟩
      have hmz : SPM w1 wz FK FR FK1 FR1 := hm3.trans ⟨Fr.of_below _ hbz, fun _ g => .inl g, fun _ g => .inl g⟩
      have hn := arrive_nums S m A B (fun q => (numsL R n).getD q 0) n
      have hmW : SPM W0 wz FK FR FK1 FR1 := SPM.trans ⟨Fr.of_below _ (by rw [HQE.out]; exact HB1.out), fun _ g => .inl g, fun _ g => .inl g⟩ hmz
      refine ⟨rfl, _, FK1, FR1, _, _, _, _, last, SE.pre (by rw [HBE.out]; exact HB.out) (arr_end HA.out (hsp3.below hbz) hmW ⟨by rw [HQE.out]; exact Nat.le_refl _, by omega⟩ ⟨HFK1.out, hqR⟩ hlm hle hfr (by rw [hn.1]; omega) hn.2)⟩
  obtain ⟨y0, y1, y2, y3, y4⟩ := hcells2
  have hsl3 : sb < w3.heap.size := by omega
  have hbl3 : bx < w3.heap.size := by omega
  clear hrest2 hsp3 hm3 hqR hq3 hL3 h3 HR r0 r1 r2 r3 r4
  go_wp2_with fail
  refine Calls.mono (HRI.out w3 (Below.refl _ _)) ?_
  rintro e w4 ⟨rfl, hend⟩
  clear HRI y0 y1 y2 y3 y4
  go_wp2
  go_ret
  exact ⟨rfl, hend.out⟩

/-- One step, whatever it is. -/
theorem step_any (hS : SortC) {w : World} {Wb sb xb yb : Nat} {S : Sy} {m : Mc} {FK FR M E : Nat → Prop} {V : Nat → Value} {C : Nat → List Value} {last : Int} (h : AS w Wb xb yb S m FK FR M E V C last) (hbd : BD 0 m C last)
    (hs0 : w.cell? ⟨sb, 0, none⟩ = some (.pointer (some ⟨xb, 0, none⟩))) (hs1 : w.cell? ⟨sb, 1, none⟩ = some (.pointer (some ⟨yb, 0, none⟩))) (hsn : ¬ (FK sb ∨ FR sb ∨ M sb)) {k A B : Int} {ao : Option Addr} {n c : Nat} {wh : Bool} {R : Nat → Int} (hL : OpL w FK FR M ao n R) :
    Calls Tryz.prog 23 #[.pointer (some ⟨Wb, 0, none⟩), .pointer (some ⟨sb, 0, none⟩), .agg #[.int .i64 k, .int .i64 A, .int .i64 B, .slice ao n c, .bool wh]] w fun e w' => e = .returned (.bool true) ∧ SX w w' Wb xb yb S m FK FR M E V C last := by
  by_cases k1 : k = 1
  · rw [k1]
    exact step_arrive h hbd hs0 hs1 hsn hL
  · by_cases k2 : k = 2
    · rw [k2]
      exact step_ticks h hbd hs0 hs1 hsn
    · by_cases k3 : k = 3
      · rw [k3]
        by_cases c : A < 0 ∨ 7 < A
        · exact step_holds_out h hbd hs0 hs1 hsn c
        · obtain ⟨r, rfl⟩ : ∃ r : Nat, A = (r : Int) := ⟨A.toNat, by omega⟩
          exact step_holds_in (by omega) h hbd hs0 hs1 hsn
      · by_cases k4 : k = 4
        · rw [k4]
          exact step_told hS h hbd hs0 hs1 hsn
        · by_cases k5 : k = 5
          · rw [k5]
            exact step_look h hbd hs0 hs1 hsn
          · exact step_other ⟨k1, k2, k3, k4, k5⟩ h hbd hs0 hs1 hsn

end Go.Proofs.YtdabcflpcklfiaaGreat
