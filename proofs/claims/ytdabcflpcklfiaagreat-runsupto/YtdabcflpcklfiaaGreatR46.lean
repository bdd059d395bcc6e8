import Derived.Test.YtdabcflpcklfiaaGreatR41
/- The law: a side (the program's kernel and the document's), and its ticks. -/
namespace Go.Proofs.YtdabcflpcklfiaaGreat
open Go.RowKit Cad

/-- Both kernels of a side, each in blocks of its own. -/
structure SP (w : World) (xb yb : Nat) (S : Sy) (m : Mc) (FK FR : Nat → Prop) : Prop where
  k : KG FK w xb S m
  r : RG FR w yb S m
  lk : LkInv S m
  dis : Dis FK FR
  loK : Lo FK w.heap.size
  loR : Lo FR w.heap.size

/-- A side has moved: nothing else has turned. -/
structure SPM (w w' : World) (FK FR FK' FR' : Nat → Prop) : Prop where
  fr : Fr (fun q => FK q ∨ FR q) w w'
  fk : ∀ q, FK' q → FK q ∨ w.heap.size ≤ q
  fy : ∀ q, FR' q → FR q ∨ w.heap.size ≤ q

theorem SP.syok {w : World} {xb yb : Nat} {S : Sy} {m : Mc} {FK FR : Nat → Prop} (h : SP w xb yb S m FK FR) : SyOk S := by
  obtain ⟨B, tb, tc, pb, pc, n, T, Z, k, jv, dv, g⟩ := h.r
  rw [g.sy]
  exact syok_of g.good g.prio

theorem SP.other {w w' : World} {xb yb : Nat} {S : Sy} {m : Mc} {FK FR G : Nat → Prop} (h : SP w xb yb S m FK FR) (hf : Fr G w w') (h1 : Dis FK G) (h2 : Dis FR G) : SP w' xb yb S m FK FR :=
  ⟨h.k.other hf h1, h.r.other hf h2, h.lk, h.dis, h.loK.mono hf.size, h.loR.mono hf.size⟩

theorem SP.below {w w' : World} {xb yb : Nat} {S : Sy} {m : Mc} {FK FR : Nat → Prop} (h : SP w xb yb S m FK FR) (hb : Below w.heap.size w w') : SP w' xb yb S m FK FR :=
  h.other (G := fun _ => False) (Fr.of_below _ hb) (fun _ _ g => g) (fun _ _ g => g)

theorem SPM.refl (w : World) (FK FR : Nat → Prop) : SPM w w FK FR FK FR := ⟨Fr.refl _ _, fun _ h => .inl h, fun _ h => .inl h⟩

theorem SPM.trans {a b c : World} {K0 R0 K1 R1 K2 R2 : Nat → Prop} (h : SPM a b K0 R0 K1 R1) (g : SPM b c K1 R1 K2 R2) : SPM a c K0 R0 K2 R2 := by
  have hs := h.fr.size
  refine ⟨h.fr.trans g.fr (fun q hq => ?_), fun q hq => ?_, fun q hq => ?_⟩
  · rcases hq with hq | hq
    · rcases h.fk q hq with e | e
      · exact .inl (.inl e)
      · exact .inr e
    · rcases h.fy q hq with e | e
      · exact .inl (.inr e)
      · exact .inr e
  · rcases g.fk q hq with e | e
    · exact h.fk q e
    · exact .inr (by omega)
  · rcases g.fy q hq with e | e
    · exact h.fy q e
    · exact .inr (by omega)

/-- The program's kernel moves. -/
theorem SP.kmove {w w' : World} {xb yb : Nat} {S : Sy} {m : Mc} {FK FR : Nat → Prop} (h : SP w xb yb S m FK FR) (hf : Fr FK w w') :
    RG FR w' yb S m ∧ Dis (Nx FK w.heap.size w'.heap.size) FR ∧ Lo (Nx FK w.heap.size w'.heap.size) w'.heap.size ∧ Lo FR w'.heap.size ∧ SPM w w' FK FR (Nx FK w.heap.size w'.heap.size) FR :=
  ⟨h.r.other hf h.dis.symm, h.dis.nx h.loR, h.loK.nx hf.size, h.loR.mono hf.size, ⟨hf.mono (fun q g => .inl g), fun q g => by
    rcases g with g | g
    · exact .inl g
    · exact .inr g.1, fun q g => .inl g⟩⟩

theorem tick_now (S : Sy) (m : Mc) : (tick S m).1.now = m.now + 1 := by
  rcases tick_cases S m with ⟨_, e⟩ | ⟨t, j, r, _, _, _, _, e⟩
  · rw [e]
  · rw [e]
    unfold tickAt
    simp only []
    split <;> rfl

set_option maxRecDepth 100000 in
set_option maxHeartbeats 4000000 in
theorem ticks_any {w : World} {sb xb yb : Nat} {S : Sy} {m : Mc} {FK FR : Nat → Prop} {nn : Int} (h : SP w xb yb S m FK FR) (hs0 : w.cell? ⟨sb, 0, none⟩ = some (.pointer (some ⟨xb, 0, none⟩))) (hs1 : w.cell? ⟨sb, 1, none⟩ = some (.pointer (some ⟨yb, 0, none⟩))) (hsn : ¬ (FK sb ∨ FR sb)) (hnow : m.now ≤ 900000000000000000) (har : m.arrd ≤ 1000000000000) :
    Calls Tryz.prog 47 #[.pointer (some ⟨sb, 0, none⟩), .int .i64 nn] w fun e w' => e = .returned (.bool true) ∧ ∃ m' FK' FR', SP w' xb yb S m' FK' FR' ∧ SPM w w' FK FR FK' FR' ∧ m'.now ≤ m.now + 300 ∧ m'.arrd = m.arrd := by
  have hsl : sb < w.heap.size := World.block_lt_of_cell? w ⟨sb, 0, none⟩ hs0
  have HS : Hid (SP w xb yb S m FK FR) := h
  have HN : Hid (¬ (FK sb ∨ FR sb)) := hsn
  have HSY : Hid (SyOk S) := h.syok
  clear h hsn
  go_enter Tryz.func47, Tryz.ntmps47
  go_wp2_with fail
  go_loopw [5] (fun iv wr => ∃ (i : Nat) (m' : Mc) (FK' FR' : Nat → Prop), i ≤ 300 ∧ iv = .int .i64 i ∧ SP wr xb yb S m' FK' FR' ∧ SPM w wr FK FR FK' FR' ∧ m'.now = m.now + i ∧ m'.arrd = m.arrd) (fun iv _ => 300 - (intOf iv).toNat)
  case atStart => exact ⟨0, m, FK, FR, by omega, rfl, HS.out, SPM.refl _ _ _, by omega, rfl⟩
  case round =>
    obtain ⟨i, m', FK', FR', hi, rfl, hsp, hmv, hnw, harr⟩ := hrel
    have c0 : wr.cell? ⟨sb, 0, none⟩ = some (.pointer (some ⟨xb, 0, none⟩)) := (hmv.fr.cell hsl HN.out).trans hs0
    have c1 : wr.cell? ⟨sb, 1, none⟩ = some (.pointer (some ⟨yb, 0, none⟩)) := (hmv.fr.cell hsl HN.out).trans hs1
    have hslr : sb < wr.heap.size := Nat.lt_of_lt_of_le hsl hmv.fr.size
    have HSP : Hid (SP wr xb yb S m' FK' FR') := hsp
    have HMV : Hid (SPM w wr FK FR FK' FR') := hmv
    have HNW : Hid (m'.now = m.now + i ∧ m'.arrd = m.arrd) := ⟨hnw, harr⟩
    have hsn' : ¬ FK' sb := fun g => by
      rcases hmv.fk sb g with e | e
      · exact HN.out (.inl e)
      · omega
    have HSN : Hid (¬ FK' sb) := hsn'
    have hm1 : m'.now < 1000000000000000000 := by omega
    have hm2 : m'.arrd ≤ 1000000000000 := by omega
    clear hsp hmv hnw harr hsn'
    by_cases hgo : i = 0 ∨ ((i : Int) < nn ∧ i < 300)
    · have hi3 : i < 300 := by omega
      have HT : Hid (∀ w1, KG (Nx FK' wr.heap.size w1.heap.size) w1 xb S (tick S m').1 → Fr FK' wr w1 → (w1.cell? ⟨sb, 1, none⟩ = some (.pointer (some ⟨yb, 0, none⟩)) ∧ sb < w1.heap.size) ∧ Calls Tryz.prog 75 #[.pointer (some ⟨yb, 0, none⟩)] w1 fun e w' => e = .returned (.tuple #[.int .i64 (tick S m').2.1, .bool (tick S m').2.2]) ∧ ∃ (m2 : Mc) (K2 R2 : Nat → Prop), SP w' xb yb S m2 K2 R2 ∧ SPM w w' FK FR K2 R2 ∧ m2.now = m.now + (i + 1 : Nat) ∧ m2.arrd = m.arrd) := by
        intro w1 hk hf
        obtain ⟨q1, q2, q3, q4, q5⟩ := HSP.out.kmove hf
        refine ⟨⟨(hf.cell hslr HSN.out).trans c1, Nat.lt_of_lt_of_le hslr hf.size⟩, (rg_tick q1 HSP.out.k.ok HSP.out.lk hm1 hm2).mono ?_⟩
        rintro e w' ⟨he, h1, h2⟩
        refine ⟨he, (tick S m').1, _, FR', ⟨hk.other h2 q2, h1, lk_tick HSY.out HSP.out.k.ok HSP.out.lk, q2, q3.mono h2.size, q4.mono h2.size⟩, HMV.out.trans (q5.trans ⟨h2.mono (fun q g => .inr g), fun q g => .inl g, fun q g => .inl g⟩), ?_, ?_⟩
        · rw [tick_now, HNW.out.1]
          omega
        · rw [tick_arrd, HNW.out.2]
      have HK : Hid (Calls Tryz.prog 28 #[.pointer (some ⟨xb, 0, none⟩)] wr fun e w' => e = .returned (.tuple #[.int .i64 (tick S m').2.1, .bool (tick S m').2.2]) ∧ KG (Nx FK' wr.heap.size w'.heap.size) w' xb S (tick S m').1 ∧ Fr FK' wr w') := kg_tick HSP.out.k hm1
      generalize (tick S m').2.1 = ta at *
      generalize (tick S m').2.2 = tb at *
      have e1 : (ta != ta) = false := by simp
      have e2 : (tb != tb) = false := by simp
      rcases hgo with g0 | ⟨g1, g2⟩
      · have b0 : ((i : Int) == 0) = true := by rw [beq_iff_eq]; omega
        clear g0 hs0 hs1
        go_wp2_with fail
        refine Calls.mono HK.out ?_
        rintro e w1 ⟨rfl, hk, hf⟩
        obtain ⟨⟨c1', hl1⟩, hcall⟩ := HT.out w1 hk hf
        have HCL : Hid _ := hcall
        clear hk hf hcall
        go_wp2_with fail
        refine Calls.mono HCL.out ?_
        rintro e w2 ⟨rfl, hend⟩
        have HEND : Hid _ := hend
        clear hend
        go_wp2
        go_roundw
        case rel =>
          obtain ⟨m2, K2, R2, h1, h2, h3, h4⟩ := HEND.out
          exact ⟨i + 1, m2, K2, R2, by omega, by go_num, h1, h2, h3, h4⟩
        case measure => simp [intOf]; omega
      · by_cases g0 : i = 0
        · have b0 : ((i : Int) == 0) = true := by rw [beq_iff_eq]; omega
          clear g0 hs0 hs1
          go_wp2_with fail
          refine Calls.mono HK.out ?_
          rintro e w1 ⟨rfl, hk, hf⟩
          obtain ⟨⟨c1', hl1⟩, hcall⟩ := HT.out w1 hk hf
          have HCL : Hid _ := hcall
          clear hk hf hcall
          go_wp2_with fail
          refine Calls.mono HCL.out ?_
          rintro e w2 ⟨rfl, hend⟩
          have HEND : Hid _ := hend
          clear hend
          go_wp2
          go_roundw
          case rel =>
            obtain ⟨m2, K2, R2, h1, h2, h3, h4⟩ := HEND.out
            exact ⟨i + 1, m2, K2, R2, by omega, by go_num, h1, h2, h3, h4⟩
          case measure => simp [intOf]; omega
        · have b0 : ((i : Int) == 0) = false := by rw [beq_eq_false_iff_ne]; omega
          have b1 : decide ((i : Int) < nn) = true := decide_eq_true g1
          have b2 : decide (i < 300) = true := decide_eq_true g2
          clear g0 hs0 hs1
          go_wp2_with fail
          refine Calls.mono HK.out ?_
          rintro e w1 ⟨rfl, hk, hf⟩
          obtain ⟨⟨c1', hl1⟩, hcall⟩ := HT.out w1 hk hf
          have HCL : Hid _ := hcall
          clear hk hf hcall
          go_wp2_with fail
          refine Calls.mono HCL.out ?_
          rintro e w2 ⟨rfl, hend⟩
          have HEND : Hid _ := hend
          clear hend
          go_wp2
          go_roundw
          case rel =>
            obtain ⟨m2, K2, R2, h1, h2, h3, h4⟩ := HEND.out
            exact ⟨i + 1, m2, K2, R2, by omega, by go_num, h1, h2, h3, h4⟩
          case measure => simp [intOf]; omega
    · have HEND : Hid (∃ m' FK' FR', SP wr xb yb S m' FK' FR' ∧ SPM w wr FK FR FK' FR' ∧ m'.now ≤ m.now + 300 ∧ m'.arrd = m.arrd) := ⟨m', FK', FR', HSP.out, HMV.out, by have := HNW.out.1; omega, HNW.out.2⟩
      have b0 : ((i : Int) == 0) = false := by rw [beq_eq_false_iff_ne]; omega
      by_cases g1 : (i : Int) < nn
      · obtain rfl : i = 300 := by omega
        have b1 : decide ((300 : Int) < nn) = true := decide_eq_true (by omega)
        clear hgo hs0 hs1 b0
        go_wp2
        go_ret
        exact ⟨rfl, HEND.out⟩
      · have b1 : decide ((i : Int) < nn) = false := decide_eq_false g1
        clear hgo hs0 hs1
        go_wp2
        go_ret
        exact ⟨rfl, HEND.out⟩

end Go.Proofs.YtdabcflpcklfiaaGreat
