import Derived.Test.YtdabcflpcklfiaaGreatR49
/- The law: its sides beside one another. -/
namespace Go.Proofs.YtdabcflpcklfiaaGreat
open Go.RowKit Cad

/-- All sides, and the law's lists, each in blocks of its own, all above B0. -/
structure PS (B0 : Nat) (w0 w : World) (Wb n : Nat) (sb xb yb : Nat → Nat) (S : Nat → Sy) (m : Nat → Mc) (FK FR : Nat → Nat → Prop) (M E : Nat → Prop) (V : Nat → Value) (C : Nat → List Value) (last : Int) : Prop where
  st : ∀ i, i < n → AS w Wb (xb i) (yb i) (S i) (m i) (FK i) (FR i) M E V C last
  dd : ∀ i j, i < n → j < n → i ≠ j → Dis (FK i) (FK j) ∧ Dis (FK i) (FR j) ∧ Dis (FR i) (FR j)
  lm : LM M w Wb V C last
  le : LE E w C
  s0 : ∀ i, i < n → w.cell? ⟨sb i, 0, none⟩ = some (.pointer (some ⟨xb i, 0, none⟩))
  s1 : ∀ i, i < n → w.cell? ⟨sb i, 1, none⟩ = some (.pointer (some ⟨yb i, 0, none⟩))
  sn : ∀ i j, i < n → j < n → ¬ (FK j (sb i) ∨ FR j (sb i))
  sm : ∀ i, i < n → ¬ M (sb i)
  sl : C 0 = (List.range n).map fun i => .pointer (some ⟨sb i, 0, none⟩)
  b0 : ∀ q, q < B0 → ¬ M q ∧ ∀ i, i < n → ¬ FK i q ∧ ¬ FR i q
  below : Below B0 w0 w
  base : B0 ≤ w0.heap.size

theorem PS.step {B0 : Nat} {w0 w w' : World} {Wb n i k : Nat} {sb xb yb : Nat → Nat} {S : Nat → Sy} {m : Nat → Mc} {m' : Mc} {FK FR : Nat → Nat → Prop} {M E FK' FR' M' E' : Nat → Prop} {V V' : Nat → Value} {C C' : Nat → List Value} {last last' : Int}
    (h : PS B0 w0 w Wb n sb xb yb S m FK FR M E V C last) (hi : i < n) (g : SE k w w' Wb (xb i) (yb i) (S i) (m i) m' (FK i) (FR i) M E FK' FR' M' E' V V' C C' last last') :
    PS B0 w0 w' Wb n sb xb yb S (upd m i m') (upd FK i FK') (upd FR i FR') M' E' V' C' last' := by
  have hz := g.am.fr.size
  have hbz := Nat.le_trans h.base h.below.size
  have hai := h.st i hi
  have hX : ∀ j, j < n → j ≠ i → Dis (FK j) (fun q => FK i q ∨ FR i q ∨ M q) ∧ Dis (FR j) (fun q => FK i q ∨ FR i q ∨ M q) := by
    intro j hj hne
    obtain ⟨d1, d2, d3⟩ := h.dd j i hj hi hne
    obtain ⟨e1, e2, e3⟩ := h.dd i j hi hj (fun e => hne e.symm)
    have ha := h.st j hj
    refine ⟨fun q h1 h2 => ?_, fun q h1 h2 => ?_⟩
    · rcases h2 with h2 | h2 | h2
      · exact d1 q h1 h2
      · exact d2 q h1 h2
      · exact ha.d2 q h1 h2
    · rcases h2 with h2 | h2 | h2
      · exact e2 q h2 h1
      · exact d3 q h1 h2
      · exact ha.d4 q h1 h2
  have hM : ∀ {G : Nat → Prop}, Lo G w.heap.size → Dis G M → Dis G M' := fun hlo hd q h1 h2 => by
    rcases g.am.fm q h2 with e | e
    · exact hd q h1 e
    · have := hlo q h1; omega
  have hE : ∀ {G : Nat → Prop}, Lo G w.heap.size → Dis G E → Dis G E' := fun hlo hd q h1 h2 => by
    rcases g.am.fe q h2 with e | e
    · exact hd q h1 e
    · have := hlo q h1; omega
  have hK : ∀ {G : Nat → Prop}, Lo G w.heap.size → Dis (FK i) G → Dis FK' G := fun hlo hd q h1 h2 => by
    rcases g.am.fk q h1 with e | e
    · exact hd q e h2
    · have := hlo q h2; omega
  have hR : ∀ {G : Nat → Prop}, Lo G w.heap.size → Dis (FR i) G → Dis FR' G := fun hlo hd q h1 h2 => by
    rcases g.am.fy q h1 with e | e
    · exact hd q e h2
    · have := hlo q h2; omega
  refine ⟨fun j hj => ?_, fun a b ha hb hab => ?_, g.st.lm, g.st.le, fun j hj => ?_, fun j hj => ?_, fun a b ha hb => ?_, fun j hj => ?_, by rw [g.c0.1]; exact h.sl, fun q hq => ?_, ?_, h.base⟩
  · by_cases e : j = i
    · subst e
      rw [upd_same, upd_same, upd_same]
      exact g.st
    · rw [upd_other _ _ e, upd_other _ _ e, upd_other _ _ e]
      have ha := h.st j hj
      obtain ⟨x1, x2⟩ := hX j hj e
      exact ⟨ha.sp.other g.am.fr x1 x2, g.st.lm, g.st.le, g.st.d1, hM ha.sp.loK ha.d2, hE ha.sp.loK ha.d3, hM ha.sp.loR ha.d4, hE ha.sp.loR ha.d5, g.st.loM, g.st.loE⟩
  · by_cases ea : a = i
    · subst ea
      rw [upd_same, upd_same, upd_other _ _ (fun e => hab e.symm), upd_other _ _ (fun e => hab e.symm)]
      obtain ⟨d1, d2, d3⟩ := h.dd a b ha hb hab
      have hb' := h.st b hb
      exact ⟨hK hb'.sp.loK d1, hK hb'.sp.loR d2, hR hb'.sp.loR d3⟩
    · rw [upd_other _ _ ea, upd_other _ _ ea]
      by_cases eb : b = i
      · subst eb
        rw [upd_same, upd_same]
        obtain ⟨d1, d2, d3⟩ := h.dd a b ha hb hab
        obtain ⟨e1, e2, e3⟩ := h.dd b a hb ha (fun e => hab e.symm)
        have ha' := h.st a ha
        exact ⟨(hK ha'.sp.loK e1).symm, (hR ha'.sp.loK d2.symm).symm, (hR ha'.sp.loR e3).symm⟩
      · rw [upd_other _ _ eb, upd_other _ _ eb]
        exact h.dd a b ha hb hab
  · have hl := World.block_lt_of_cell? w ⟨sb j, 0, none⟩ (h.s0 j hj)
    refine (g.am.fr.cell hl (fun q => ?_)).trans (h.s0 j hj)
    rcases q with q | q | q
    · exact h.sn j i hj hi (.inl q)
    · exact h.sn j i hj hi (.inr q)
    · exact h.sm j hj q
  · have hl := World.block_lt_of_cell? w ⟨sb j, 0, none⟩ (h.s0 j hj)
    refine (g.am.fr.cell hl (fun q => ?_)).trans (h.s1 j hj)
    rcases q with q | q | q
    · exact h.sn j i hj hi (.inl q)
    · exact h.sn j i hj hi (.inr q)
    · exact h.sm j hj q
  · have hl := World.block_lt_of_cell? w ⟨sb a, 0, none⟩ (h.s0 a ha)
    have hl' : sb a < w.heap.size := hl
    by_cases eb : b = i
    · subst eb
      rw [upd_same, upd_same]
      rintro (q | q)
      · rcases g.am.fk _ q with e | e
        · exact h.sn a b ha hb (.inl e)
        · omega
      · rcases g.am.fy _ q with e | e
        · exact h.sn a b ha hb (.inr e)
        · omega
    · rw [upd_other _ _ eb, upd_other _ _ eb]
      exact h.sn a b ha hb
  · have hl := World.block_lt_of_cell? w ⟨sb j, 0, none⟩ (h.s0 j hj)
    have hl' : sb j < w.heap.size := hl
    intro q
    rcases g.am.fm _ q with e | e
    · exact h.sm j hj e
    · omega
  · obtain ⟨q1, q2⟩ := h.b0 q hq
    refine ⟨fun g1 => ?_, fun j hj => ?_⟩
    · rcases g.am.fm q g1 with e | e
      · exact q1 e
      · omega
    · by_cases e : j = i
      · subst e
        rw [upd_same, upd_same]
        refine ⟨fun g1 => ?_, fun g1 => ?_⟩
        · rcases g.am.fk q g1 with e | e
          · exact (q2 j hj).1 e
          · omega
        · rcases g.am.fy q g1 with e | e
          · exact (q2 j hj).2 e
          · omega
      · rw [upd_other _ _ e, upd_other _ _ e]
        exact q2 j hj
  · refine h.below.trans (g.am.fr.below hbz (fun q hq => ?_))
    by_cases c : q < B0
    · obtain ⟨q1, q2⟩ := h.b0 q c
      rcases hq with e | e | e
      · exact absurd e (q2 i hi).1
      · exact absurd e (q2 i hi).2
      · exact absurd e q1
    · omega

theorem PS.belowW {B0 : Nat} {w0 w w' : World} {Wb n : Nat} {sb xb yb : Nat → Nat} {S : Nat → Sy} {m : Nat → Mc} {FK FR : Nat → Nat → Prop} {M E : Nat → Prop} {V : Nat → Value} {C : Nat → List Value} {last : Int}
    (h : PS B0 w0 w Wb n sb xb yb S m FK FR M E V C last) (hb : Below w.heap.size w w') : PS B0 w0 w' Wb n sb xb yb S m FK FR M E V C last :=
  { h with st := fun i hi => (h.st i hi).below hb, lm := h.lm.below hb, le := h.le.other (Fr.of_below (fun _ => False) hb) (fun _ _ g => g), s0 := fun i hi => (hb.cell (p := ⟨sb i, 0, none⟩) (World.block_lt_of_cell? w ⟨sb i, 0, none⟩ (h.s0 i hi))).trans (h.s0 i hi), s1 := fun i hi => (hb.cell (p := ⟨sb i, 1, none⟩) (World.block_lt_of_cell? w ⟨sb i, 0, none⟩ (h.s0 i hi))).trans (h.s1 i hi), below := h.below.trans (hb.mono (Nat.le_trans h.base h.below.size)) }

/-- A side that a step can be asked of, with room for s more. -/
structure SS (s : Nat) (w : World) (Wb sb xb yb : Nat) (S : Sy) (m : Mc) (FK FR M E : Nat → Prop) (V : Nat → Value) (C : Nat → List Value) (last : Int) : Prop where
  st : AS w Wb xb yb S m FK FR M E V C last
  c0 : w.cell? ⟨sb, 0, none⟩ = some (.pointer (some ⟨xb, 0, none⟩))
  c1 : w.cell? ⟨sb, 1, none⟩ = some (.pointer (some ⟨yb, 0, none⟩))
  sn : ¬ (FK sb ∨ FR sb ∨ M sb)
  bd : BD s m C last

theorem SS.after {s j : Nat} {w w' : World} {Wb sb xb yb : Nat} {S : Sy} {m m' : Mc} {FK FR M E FK' FR' M' E' : Nat → Prop} {V V' : Nat → Value} {C C' : Nat → List Value} {last last' : Int} (h : SS (s + j) w Wb sb xb yb S m FK FR M E V C last) (g : SE j w w' Wb xb yb S m m' FK FR M E FK' FR' M' E' V V' C C' last last') : SS s w' Wb sb xb yb S m' FK' FR' M' E' V' C' last' := by
  have hl : sb < w.heap.size := World.block_lt_of_cell? w ⟨sb, 0, none⟩ h.c0
  refine ⟨g.st, (g.am.fr.cell hl h.sn).trans h.c0, (g.am.fr.cell hl h.sn).trans h.c1, fun q => ?_, h.bd.after g⟩
  rcases q with q | q | q
  · rcases g.am.fk _ q with e | e
    · exact h.sn (.inl e)
    · omega
  · rcases g.am.fy _ q with e | e
    · exact h.sn (.inr (.inl e))
    · omega
  · rcases g.am.fm _ q with e | e
    · exact h.sn (.inr (.inr e))
    · omega

def SSX (k s : Nat) (w w' : World) (Wb sb xb yb : Nat) (S : Sy) (m : Mc) (FK FR M E : Nat → Prop) (V : Nat → Value) (C : Nat → List Value) (last : Int) : Prop :=
  ∃ m' FK' FR' M' E' V' C' last', SE k w w' Wb xb yb S m m' FK FR M E FK' FR' M' E' V V' C C' last last' ∧ SS s w' Wb sb xb yb S m' FK' FR' M' E' V' C' last'

theorem ssx_step (hS : SortC) {k s : Nat} {w w1 : World} {Wb sb xb yb : Nat} {S : Sy} {m : Mc} {FK FR M E : Nat → Prop} {V : Nat → Value} {C : Nat → List Value} {last : Int} (h : SSX k (s + 1) w w1 Wb sb xb yb S m FK FR M E V C last) {kd A B : Int} {c : Nat} {wh : Bool} {ao : Option Addr} :
    Calls Tryz.prog 23 #[.pointer (some ⟨Wb, 0, none⟩), .pointer (some ⟨sb, 0, none⟩), .agg #[.int .i64 kd, .int .i64 A, .int .i64 B, .slice ao 0 c, .bool wh]] w1 fun e w' => e = .returned (.bool true) ∧ SSX (k + 1) s w w' Wb sb xb yb S m FK FR M E V C last := by
  obtain ⟨m', FK', FR', M', E', V', C', last', hse, hss⟩ := h
  refine Calls.mono (step_any hS hss.st (hss.bd.mono (by omega)) hss.c0 hss.c1 hss.sn (R := fun _ => 0) ⟨by omega, fun h1 => by omega⟩) ?_
  rintro e w' ⟨he, m2, K2, R2, M2, E2, V2, C2, l2, g⟩
  exact ⟨he, m2, K2, R2, M2, E2, V2, C2, l2, hse.trans g, hss.after g⟩

set_option maxRecDepth 100000 in
set_option maxHeartbeats 4000000 in
theorem ended_any (hS : SortC) {s : Nat} {w : World} {Wb sb xb yb : Nat} {S : Sy} {m : Mc} {FK FR M E : Nat → Prop} {V : Nat → Value} {C : Nat → List Value} {last : Int} (h : SS (s + 12) w Wb sb xb yb S m FK FR M E V C last) :
    Calls Tryz.prog 24 #[.pointer (some ⟨Wb, 0, none⟩), .pointer (some ⟨sb, 0, none⟩)] w fun e w' => e = .returned (.bool true) ∧ SSX 12 s w w' Wb sb xb yb S m FK FR M E V C last := by
  have HS : Hid (SS (s + 12) w Wb sb xb yb S m FK FR M E V C last) := h
  clear h
  go_enter Tryz.func24, Tryz.ntmps24
  go_wp2_with fail
  refine Calls.mono (told_any hS HS.out.st (HS.out.bd.mono (by omega)) HS.out.c0 HS.out.c1 (fun g => HS.out.sn (.inl g))) ?_
  rintro e w1 ⟨rfl, FK', FR', M', E', V', C', hse⟩
  have HX1 : Hid (SSX 1 (s + 11) w w1 Wb sb xb yb S m FK FR M E V C last) := ⟨m, FK', FR', M', E', V', C', last - 1, hse, SS.after (s := s + 11) (j := 1) HS.out hse⟩
  clear hse
  go_wp2_with fail
  refine Calls.mono (ssx_step hS (s := s + 10) HX1.out) ?_
  rintro e w2 ⟨rfl, hx2⟩
  have HX2 : Hid (SSX 2 (s + 10) w w2 Wb sb xb yb S m FK FR M E V C last) := hx2
  clear hx2 HX1
  go_wp2_with fail
  go_loopw [6, 7] (fun bv rv wr => ∃ j : Nat, j ≤ 10 ∧ bv = .bool true ∧ rv = .int .i64 ((j : Int) - 1) ∧ SSX (2 + j) (s + (10 - j)) w wr Wb sb xb yb S m FK FR M E V C last) (fun _ rv _ => (9 - intOf rv).toNat)
  case atStart => exact ⟨0, by omega, rfl, rfl, HX2.out⟩
  case round =>
    obtain ⟨j, hj, rfl, rfl, hx⟩ := hrel
    have HX : Hid (SSX (2 + j) (s + (10 - j)) w wr Wb sb xb yb S m FK FR M E V C last) := hx
    clear hx
    by_cases hj9 : j < 10
    · have b1 : decide ((j : Int) - 1 ≤ 8) = true := decide_eq_true (by omega)
      have hx' : SSX (2 + j) (s + (9 - j) + 1) w wr Wb sb xb yb S m FK FR M E V C last := by
        have := HX.out
        rw [show s + (10 - j) = s + (9 - j) + 1 by omega] at this
        exact this
      have HX' : Hid (SSX (2 + j) (s + (9 - j) + 1) w wr Wb sb xb yb S m FK FR M E V C last) := hx'
      clear hx'
      go_wp2_with fail
      refine Calls.mono (ssx_step hS (s := s + (9 - j)) HX'.out) ?_
      rintro e w3 ⟨rfl, hx3⟩
      have HX3 : Hid (SSX (2 + j + 1) (s + (9 - j)) w w3 Wb sb xb yb S m FK FR M E V C last) := hx3
      clear hx3 HX' b1
      go_wp2
      go_roundw
      case rel =>
        refine ⟨j + 1, by omega, rfl, by go_num, ?_⟩
        rw [show 10 - (j + 1) = 9 - j by omega]
        exact HX3.out
      case measure => simp [intOf]; omega
    · obtain rfl : j = 10 := by omega
      go_wp2
      go_ret
      exact ⟨rfl, HX.out⟩

end Go.Proofs.YtdabcflpcklfiaaGreat
