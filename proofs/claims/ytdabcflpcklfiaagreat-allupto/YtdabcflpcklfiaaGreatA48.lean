import Derived.Test.YtdabcflpcklfiaaGreatA47
/- The law: its sides beside one another. -/
namespace Go.Proofs.YtdabcflpcklfiaaGreat
open Go.RowKit Cad

/-- All sides, and the law's lists, each in blocks of its own, all above B0. -/
structure PS (B0 : Nat) (w0 w : World) (Wb n : Nat) (sb xb yb : Nat → Nat) (S : Nat → Sy) (m : Nat → Mc) (FK FR : Nat → Nat → Prop) (M E : Nat → Prop) (V : Nat → Value) (C : Nat → List Value) (last : Int) : Prop where
  st : ∀ i, i < n → AS w Wb (xb i) (yb i) (S i) (m i) (FK i) (FR i) M E V C last
  dd : ∀ i j, i < n → j < n → i ≠ j → Dis (FK i) (FK j) ∧ Dis (FK i) (FR j) ∧ Dis (FR i) (FR j)
  lm : LM M w Wb V C last
  le : LE E w C
  s0 : ∀ i, i < n → w.cell? ⟨sb i, 0, none⟩ = some (.pointer (some ⟨xb i, 0, none⟩))
  s1 : ∀ i, i < n → w.cell? ⟨sb i, 1, none⟩ = some (.pointer (some ⟨yb i, 0, none⟩))
  sn : ∀ i j, i < n → j < n → ¬ (FK j (sb i) ∨ FR j (sb i))
  sm : ∀ i, i < n → ¬ M (sb i)
  sl : C 0 = (List.range n).map fun i => .pointer (some ⟨sb i, 0, none⟩)
  b0 : ∀ q, q < B0 → ¬ M q ∧ ∀ i, i < n → ¬ FK i q ∧ ¬ FR i q
  below : Below B0 w0 w
  base : B0 ≤ w0.heap.size

theorem PS.step {B0 : Nat} {w0 w w' : World} {Wb n i k : Nat} {sb xb yb : Nat → Nat} {S : Nat → Sy} {m : Nat → Mc} {m' : Mc} {FK FR : Nat → Nat → Prop} {M E FK' FR' M' E' : Nat → Prop} {V V' : Nat → Value} {C C' : Nat → List Value} {last last' : Int}
    (h : PS B0 w0 w Wb n sb xb yb S m FK FR M E V C last) (hi : i < n) (g : SE k w w' Wb (xb i) (yb i) (S i) (m i) m' (FK i) (FR i) M E FK' FR' M' E' V V' C C' last last') :
    PS B0 w0 w' Wb n sb xb yb S (upd m i m') (upd FK i FK') (upd FR i FR') M' E' V' C' last' := by
  have hz := g.am.fr.size
  have hbz := Nat.le_trans h.base h.below.size
  have hai := h.st i hi
  have hX : ∀ j, j < n → j ≠ i → Dis (FK j) (fun q => FK i q ∨ FR i q ∨ M q) ∧ Dis (FR j) (fun q => FK i q ∨ FR i q ∨ M q) := by
    intro j hj hne
    obtain ⟨d1, d2, d3⟩ := h.dd j i hj hi hne
    obtain ⟨e1, e2, e3⟩ := h.dd i j hi hj (fun e => hne e.symm)
    have ha := h.st j hj
    refine ⟨fun q h1 h2 => ?_, fun q h1 h2 => ?_⟩
    · rcases h2 with h2 | h2 | h2
      · exact d1 q h1 h2
      · exact d2 q h1 h2
      · exact ha.d2 q h1 h2
    · rcases h2 with h2 | h2 | h2
      · exact e2 q h2 h1
      · exact d3 q h1 h2
      · exact ha.d4 q h1 h2
  have hM : ∀ {G : Nat → Prop}, Lo G w.heap.size → Dis G M → Dis G M' := fun hlo hd q h1 h2 => by
    rcases g.am.fm q h2 with e | e
    · exact hd q h1 e
    · have := hlo q h1; omega
  have hE : ∀ {G : Nat → Prop}, Lo G w.heap.size → Dis G E → Dis G E' := fun hlo hd q h1 h2 => by
    rcases g.am.fe q h2 with e | e
    · exact hd q h1 e
    · have := hlo q h1; omega
  have hK : ∀ {G : Nat → Prop}, Lo G w.heap.size → Dis (FK i) G → Dis FK' G := fun hlo hd q h1 h2 => by
    rcases g.am.fk q h1 with e | e
    · exact hd q e h2
    · have := hlo q h2; omega
  have hR : ∀ {G : Nat → Prop}, Lo G w.heap.size → Dis (FR i) G → Dis FR' G := fun hlo hd q h1 h2 => by
    rcases g.am.fy q h1 with e | e
    · exact hd q e h2
    · have := hlo q h2; omega
  refine ⟨fun j hj => ?_, fun a b ha hb hab => ?_, g.st.lm, g.st.le, fun j hj => ?_, fun j hj => ?_, fun a b ha hb => ?_, fun j hj => ?_, by rw [g.c0.1]; exact h.sl, fun q hq => ?_, ?_, h.base⟩
  · by_cases e : j = i
    · subst e
      rw [upd_same, upd_same, upd_same]
      exact g.st
    · rw [upd_other _ _ e, upd_other _ _ e, upd_other _ _ e]
      have ha := h.st j hj
      obtain ⟨x1, x2⟩ := hX j hj e
      exact ⟨ha.sp.other g.am.fr x1 x2, g.st.lm, g.st.le, g.st.d1, hM ha.sp.loK ha.d2, hE ha.sp.loK ha.d3, hM ha.sp.loR ha.d4, hE ha.sp.loR ha.d5, g.st.loM, g.st.loE⟩
  · by_cases ea : a = i
    · subst ea
      rw [upd_same, upd_same, upd_other _ _ (fun e => hab e.symm), upd_other _ _ (fun e => hab e.symm)]
      obtain ⟨d1, d2, d3⟩ := h.dd a b ha hb hab
      have hb' := h.st b hb
      exact ⟨hK hb'.sp.loK d1, hK hb'.sp.loR d2, hR hb'.sp.loR d3⟩
    · rw [upd_other _ _ ea, upd_other _ _ ea]
      by_cases eb : b = i
      · subst eb
        rw [upd_same, upd_same]
        obtain ⟨d1, d2, d3⟩ := h.dd a b ha hb hab
        obtain ⟨e1, e2, e3⟩ := h.dd b a hb ha (fun e => hab e.symm)
        have ha' := h.st a ha
        exact ⟨(hK ha'.sp.loK e1).symm, (hR ha'.sp.loK d2.symm).symm, (hR ha'.sp.loR e3).symm⟩
      · rw [upd_other _ _ eb, upd_other _ _ eb]
        exact h.dd a b ha hb hab
  · have hl := World.block_lt_of_cell? w ⟨sb j, 0, none⟩ (h.s0 j hj)
    refine (g.am.fr.cell hl (fun q => ?_)).trans (h.s0 j hj)
    rcases q with q | q | q
    · exact h.sn j i hj hi (.inl q)
    · exact h.sn j i hj hi (.inr q)
    · exact h.sm j hj q
  · have hl := World.block_lt_of_cell? w ⟨sb j, 0, none⟩ (h.s0 j hj)
    refine (g.am.fr.cell hl (fun q => ?_)).trans (h.s1 j hj)
    rcases q with q | q | q
    · exact h.sn j i hj hi (.inl q)
    · exact h.sn j i hj hi (.inr q)
    · exact h.sm j hj q
  · have hl := World.block_lt_of_cell? w ⟨sb a, 0, none⟩ (h.s0 a ha)
    have hl' : sb a < w.heap.size := hl
    by_cases eb : b = i
    · subst eb
      rw [upd_same, upd_same]
      rintro (q | q)
      · rcases g.am.fk _ q with e | e
        · exact h.sn a b ha hb (.inl e)
        · omega
      · rcases g.am.fy _ q with e | e
        · exact h.sn a b ha hb (.inr e)
        · omega
    · rw [upd_other _ _ eb, upd_other _ _ eb]
      exact h.sn a b ha hb
  · have hl := World.block_lt_of_cell? w ⟨sb j, 0, none⟩ (h.s0 j hj)
    have hl' : sb j < w.heap.size := hl
    intro q
    rcases g.am.fm _ q with e | e
    · exact h.sm j hj e
    · omega
  · obtain ⟨q1, q2⟩ := h.b0 q hq
    refine ⟨fun g1 => ?_, fun j hj => ?_⟩
    · rcases g.am.fm q g1 with e | e
      · exact q1 e
      · omega
    · by_cases e : j = i
      · subst e
        rw [upd_same, upd_same]
        refine ⟨fun g1 => ?_, fun g1 => ?_⟩
        · rcases g.am.fk q g1 with e | e
          · exact (q2 j hj).1 e
          · omega
        · rcases g.am.fy q g1 with e | e
          · exact (q2 j hj).2 e
          · omega
      · rw [upd_other _ _ e, upd_other _ _ e]
        exact q2 j hj
  · refine h.below.trans (g.am.fr.below hbz (fun q hq => ?_))
    by_cases c : q < B0
    · obtain ⟨q1, q2⟩ := h.b0 q c
      rcases hq with e | e | e
      · exact absurd e (q2 i hi).1
      · exact absurd e (q2 i hi).2
      · exact absurd e q1
    · omega

theorem PS.belowW {B0 : Nat} {w0 w w' : World} {Wb n : Nat} {sb xb yb : Nat → Nat} {S : Nat → Sy} {m : Nat → Mc} {FK FR : Nat → Nat → Prop} {M E : Nat → Prop} {V : Nat → Value} {C : Nat → List Value} {last : Int}
    (h : PS B0 w0 w Wb n sb xb yb S m FK FR M E V C last) (hb : Below w.heap.size w w') : PS B0 w0 w' Wb n sb xb yb S m FK FR M E V C last :=
  { h with st := fun i hi => (h.st i hi).below hb, lm := h.lm.below hb, le := h.le.other (Fr.of_below (fun _ => False) hb) (fun _ _ g => g), s0 := fun i hi => (hb.cell (p := ⟨sb i, 0, none⟩) (World.block_lt_of_cell? w ⟨sb i, 0, none⟩ (h.s0 i hi))).trans (h.s0 i hi), s1 := fun i hi => (hb.cell (p := ⟨sb i, 1, none⟩) (World.block_lt_of_cell? w ⟨sb i, 0, none⟩ (h.s0 i hi))).trans (h.s1 i hi), below := h.below.trans (hb.mono (Nat.le_trans h.base h.below.size)) }

/-- A side that a step can be asked of, with room for s more. -/
structure SS (s : Nat) (w : World) (Wb sb xb yb : Nat) (S : Sy) (m : Mc) (FK FR M E : Nat → Prop) (V : Nat → Value) (C : Nat → List Value) (last : Int) : Prop where
  st : AS w Wb xb yb S m FK FR M E V C last
  c0 : w.cell? ⟨sb, 0, none⟩ = some (.pointer (some ⟨xb, 0, none⟩))
  c1 : w.cell? ⟨sb, 1, none⟩ = some (.pointer (some ⟨yb, 0, none⟩))
  sn : ¬ (FK sb ∨ FR sb ∨ M sb)
  bd : BD s m C last

theorem SS.after {s j : Nat} {w w' : World} {Wb sb xb yb : Nat} {S : Sy} {m m' : Mc} {FK FR M E FK' FR' M' E' : Nat → Prop} {V V' : Nat → Value} {C C' : Nat → List Value} {last last' : Int} (h : SS (s + j) w Wb sb xb yb S m FK FR M E V C last) (g : SE j w w' Wb xb yb S m m' FK FR M E FK' FR' M' E' V V' C C' last last') : SS s w' Wb sb xb yb S m' FK' FR' M' E' V' C' last' := by
  have hl : sb < w.heap.size := World.block_lt_of_cell? w ⟨sb, 0, none⟩ h.c0
  refine ⟨g.st, (g.am.fr.cell hl h.sn).trans h.c0, (g.am.fr.cell hl h.sn).trans h.c1, fun q => ?_, h.bd.after g⟩
  rcases q with q | q | q
  · rcases g.am.fk _ q with e | e
    · exact h.sn (.inl e)
    · omega
  · rcases g.am.fy _ q with e | e
    · exact h.sn (.inr (.inl e))
    · omega
  · rcases g.am.fm _ q with e | e
    · exact h.sn (.inr (.inr e))
    · omega

def SSX (k s : Nat) (w w' : World) (Wb sb xb yb : Nat) (S : Sy) (m : Mc) (FK FR M E : Nat → Prop) (V : Nat → Value) (C : Nat → List Value) (last : Int) : Prop :=
  ∃ m' FK' FR' M' E' V' C' last', SE k w w' Wb xb yb S m m' FK FR M E FK' FR' M' E' V V' C C' last last' ∧ SS s w' Wb sb xb yb S m' FK' FR' M' E' V' C' last'

theorem ssx_step (hS : SortC) {k s : Nat} {w w1 : World} {Wb sb xb yb : Nat} {S : Sy} {m : Mc} {FK FR M E : Nat → Prop} {V : Nat → Value} {C : Nat → List Value} {last : Int} (h : SSX k (s + 1) w w1 Wb sb xb yb S m FK FR M E V C last) {kd A B : Int} {c : Nat} {wh : Bool} {ao : Option Addr} :
    Calls Tryz.prog 23 #[.pointer (some ⟨Wb, 0, none⟩), .pointer (some ⟨sb, 0, none⟩), .agg #[.int .i64 kd, .int .i64 A, .int .i64 B, .slice ao 0 c, .bool wh]] w1 fun e w' => e = .returned (.bool true) ∧ SSX (k + 1) s w w' Wb sb xb yb S m FK FR M E V C last := by
  obtain ⟨m', FK', FR', M', E', V', C', last', hse, hss⟩ := h
  refine Calls.mono (step_any hS hss.st (hss.bd.mono (by omega)) hss.c0 hss.c1 hss.sn (R := fun _ => 0) ⟨by omega, fun h1 => by omega⟩) ?_
  rintro e w' ⟨he, m2, K2, R2, M2, E2, V2, C2, l2, g⟩
  exact ⟨he, m2, K2, R2, M2, E2, V2, C2, l2, hse.trans g, hss.after g⟩

set_option maxRecDepth 100000 in
set_option maxHeartbeats 4000000 in
theorem ended_any (hS : SortC) {s : Nat} {w : World} {Wb sb xb yb : Nat} {S : Sy} {m : Mc} {FK FR M E : Nat → Prop} {V : Nat → Value} {C : Nat → List Value} {last : Int} (h : SS (s + 12) w Wb sb xb yb S m FK FR M E V C last) :
    Calls Tryz.prog 24 #[.pointer (some ⟨Wb, 0, none⟩), .pointer (some ⟨sb, 0, none⟩)] w fun e w' => e = .returned (.bool true) ∧ SSX 12 s w w' Wb sb xb yb S m FK FR M E V C last := by
  have HS : Hid (SS (s + 12) w Wb sb xb yb S m FK FR M E V C last) := h
  clear h
  go_enter Tryz.func24, Tryz.ntmps24
  go_wp2_with fail
  refine Calls.mono (told_any hS HS.out.st (HS.out.bd.mono (by omega)) HS.out.c0 HS.out.c1 (fun g => HS.out.sn (.inl g))) ?_
  rintro e w1 ⟨rfl, FK', FR', M', E', V', C', hse⟩
  have HX1 : Hid (SSX 1 (s + 11) w w1 Wb sb xb yb S m FK FR M E V C last) := ⟨m, FK', FR', M', E', V', C', last - 1, hse, SS.after (s := s + 11) (j := 1) HS.out hse⟩
  clear hse
  go_wp2_with fail
  refine Calls.mono (ssx_step hS (s := s + 10) HX1.out) ?_
  rintro e w2 ⟨rfl, hx2⟩
  have HX2 : Hid (SSX 2 (s + 10) w w2 Wb sb xb yb S m FK FR M E V C last) := hx2
  clear hx2 HX1
  go_wp2_with fail
  go_loopw [6, 7] (fun bv rv wr => ∃ j : Nat, j ≤ 10 ∧ bv = .bool true ∧ rv = .int .i64 ((j : Int) - 1) ∧ SSX (2 + j) (s + (10 - j)) w wr Wb sb xb yb S m FK FR M E V C last) (fun _ rv _ => (9 - intOf rv).toNat)
  case atStart => exact ⟨0, by omega, rfl, rfl, HX2.out⟩
  case round =>
    obtain ⟨j, hj, rfl, rfl, hx⟩ := hrel
    have HX : Hid (SSX (2 + j) (s + (10 - j)) w wr Wb sb xb yb S m FK FR M E V C last) := hx
    clear hx
    by_cases hj9 : j < 10
    · have b1 : decide ((j : Int) - 1 ≤ 8) = true := decide_eq_true (by omega)
      have hx' : SSX (2 + j) (s + (9 - j) + 1) w wr Wb sb xb yb S m FK FR M E V C last := by
        have := HX.out
        rw [show s + (10 - j) = s + (9 - j) + 1 by omega] at this
        exact this
      have HX' : Hid (SSX (2 + j) (s + (9 - j) + 1) w wr Wb sb xb yb S m FK FR M E V C last) := hx'
      clear hx'
      go_wp2_with fail
      refine Calls.mono (ssx_step hS (s := s + (9 - j)) HX'.out) ?_
      rintro e w3 ⟨rfl, hx3⟩
      have HX3 : Hid (SSX (2 + j + 1) (s + (9 - j)) w w3 Wb sb xb yb S m FK FR M E V C last) := hx3
      clear hx3 HX' b1
      go_wp2
      go_roundw
      case rel =>
        refine ⟨j + 1, by omega, rfl, by go_num, ?_⟩
        rw [show 10 - (j + 1) = 9 - j by omega]
        exact HX3.out
      case measure => simp [intOf]; omega
    · obtain rfl : j = 10 := by omega
      go_wp2
      go_ret
      exact ⟨rfl, HX.out⟩

end Go.Proofs.YtdabcflpcklfiaaGreat

/- The law: a script is played. -/
namespace Go.Proofs.YtdabcflpcklfiaaGreat
open Go.RowKit Cad

/-- A script, as numbers. -/
structure OD where
  K : Nat → Int
  A : Nat → Int
  B : Nat → Int
  P : Nat → Option Addr
  L : Nat → Nat
  C : Nat → Nat
  W : Nat → Bool
  R : Nat → Nat → Int

/-- A script in memory, all of it below B0. -/
def OpsAt (w : World) (B0 b off n : Nat) (X : OD) : Prop := ∀ i, i < n →
  w.cell? ⟨b, off + i * 5, none⟩ = some (.int .i64 (X.K i)) ∧ w.cell? ⟨b, off + i * 5 + 1, none⟩ = some (.int .i64 (X.A i)) ∧ w.cell? ⟨b, off + i * 5 + 2, none⟩ = some (.int .i64 (X.B i)) ∧ w.cell? ⟨b, off + i * 5 + 3, none⟩ = some (.slice (X.P i) (X.L i) (X.C i)) ∧ w.cell? ⟨b, off + i * 5 + 4, none⟩ = some (.bool (X.W i)) ∧
  X.L i * 8 ≤ 140737488351232 ∧ (1 ≤ X.L i → ∃ rb rf, X.P i = some ⟨rb, rf, none⟩ ∧ rb < B0 ∧ IntsAt w rb rf (X.L i) (X.R i))

/-- Where the play stands. -/
def PX (B0 r n Wb : Nat) (w0 w : World) (sb xb yb : Nat → Nat) (S : Nat → Sy) : Prop :=
  ∃ m FK FR M E V C last, PS B0 w0 w Wb n sb xb yb S m FK FR M E V C last ∧ (∀ i, i < n → BD r (m i) C last) ∧ (∀ i, i < 8 → (C i).length + 4 * r ≤ 1000000000)

theorem PX.below {B0 r n Wb : Nat} {w0 w w' : World} {sb xb yb : Nat → Nat} {S : Nat → Sy} (h : PX B0 r n Wb w0 w sb xb yb S) (hb : Below w.heap.size w w') : PX B0 r n Wb w0 w' sb xb yb S := by
  obtain ⟨m, FK, FR, M, E, V, C, last, hp, h1, h2⟩ := h
  exact ⟨m, FK, FR, M, E, V, C, last, hp.belowW hb, h1, h2⟩

theorem PX.kept {B0 r n Wb : Nat} {w0 w : World} {sb xb yb : Nat → Nat} {S : Nat → Sy} (h : PX B0 r n Wb w0 w sb xb yb S) : Calls Tryz.prog 22 #[.pointer (some ⟨Wb, 0, none⟩)] w fun e w' => e = .returned (.bool true) ∧ Below w.heap.size w w' := by
  obtain ⟨m, FK, FR, M, E, V, C, last, hp, h1, h2⟩ := h
  exact kept_any hp.lm hp.le (fun i hi => by have := h2 i hi; omega)

theorem PX.after {B0 r j n Wb i : Nat} {w0 w w' : World} {sb xb yb : Nat → Nat} {S : Nat → Sy} {m : Nat → Mc} {m' : Mc} {FK FR : Nat → Nat → Prop} {M E FK' FR' M' E' : Nat → Prop} {V V' : Nat → Value} {C C' : Nat → List Value} {last last' : Int} (hp : PS B0 w0 w Wb n sb xb yb S m FK FR M E V C last) (h1 : ∀ i, i < n → BD (r + j) (m i) C last) (h2 : ∀ i, i < 8 → (C i).length + 4 * (r + j) ≤ 1000000000) (hi : i < n)
    (g : SE j w w' Wb (xb i) (yb i) (S i) (m i) m' (FK i) (FR i) M E FK' FR' M' E' V V' C C' last last') : PX B0 r n Wb w0 w' sb xb yb S := by
  refine ⟨_, _, _, _, _, _, _, _, hp.step hi g, fun k hk => ?_, fun k hk => ?_⟩
  · have hb := (h1 i hi).after g
    by_cases e : k = i
    · subst e
      rw [upd_same]
      exact hb
    · rw [upd_other _ _ e]
      have hk' := h1 k hk
      exact ⟨by have := hk'.now; omega, by have := hk'.arr; omega, hb.len, hb.lo, hb.hi⟩
  · have := h2 k hk
    have := g.cl k hk
    omega

/-- The sides, as play finds them. -/
theorem PX.side {B0 r n Wb : Nat} {w0 w : World} {sb xb yb : Nat → Nat} {S : Nat → Sy} (h : PX B0 r n Wb w0 w sb xb yb S) : ∃ vo vc, w.cell? ⟨Wb, 0, none⟩ = some (.slice vo n vc) ∧ Wb < w.heap.size ∧ ∀ i, i < n → ∃ g, vo = some ⟨g, 0, none⟩ ∧ g < w.heap.size ∧ w.cell? ⟨g, i, none⟩ = some (.pointer (some ⟨sb i, 0, none⟩)) := by
  obtain ⟨m, FK, FR, M, E, V, C, last, hp, _, _⟩ := h
  have hl : (C 0).length = n := by rw [hp.sl]; simp
  obtain ⟨vo, vc, hv⟩ := hp.lm.shape (i := 0) (by omega)
  rw [hl] at hv
  refine ⟨vo, vc, by rw [hp.lm.cellW (by omega), hv], hp.lm.row.lt, fun i hi => ?_⟩
  obtain ⟨g, cap, hv', hg, hc⟩ := hp.lm.elem (i := 0) (j := i) (u := .pointer (some ⟨sb i, 0, none⟩)) (by omega) (by rw [hp.sl]; simp [hi])
  rw [hv] at hv'
  cases hv'
  exact ⟨g, rfl, hg, hc⟩

theorem px_step (hS : SortC) {B0 r n Wb t : Nat} {w0 w : World} {sb xb yb : Nat → Nat} {S : Nat → Sy} (h : PX B0 (r + 1) n Wb w0 w sb xb yb S) (ht : t < n) {k A B : Int} {ao : Option Addr} {l c : Nat} {wh : Bool} {R : Nat → Int} (hl : l * 8 ≤ 140737488351232) (hR : 1 ≤ l → ∃ rb rf, ao = some ⟨rb, rf, none⟩ ∧ rb < B0 ∧ IntsAt w0 rb rf l R) :
    Calls Tryz.prog 23 #[.pointer (some ⟨Wb, 0, none⟩), .pointer (some ⟨sb t, 0, none⟩), .agg #[.int .i64 k, .int .i64 A, .int .i64 B, .slice ao l c, .bool wh]] w fun e w' => e = .returned (.bool true) ∧ PX B0 r n Wb w0 w' sb xb yb S := by
  obtain ⟨m, FK, FR, M, E, V, C, last, hp, h1, h2⟩ := h
  have hbz := Nat.le_trans hp.base hp.below.size
  refine Calls.mono (step_any hS (hp.st t ht) ((h1 t ht).mono (by omega)) (hp.s0 t ht) (hp.s1 t ht) (fun q => ?_) (R := R) ⟨hl, fun g => ?_⟩) ?_
  · rcases q with q | q | q
    · exact hp.sn t t ht ht (.inl q)
    · exact hp.sn t t ht ht (.inr q)
    · exact hp.sm t ht q
  · obtain ⟨rb, rf, e1, e2, e3⟩ := hR g
    obtain ⟨q1, q2⟩ := hp.b0 rb e2
    refine ⟨rb, rf, e1, by omega, fun q hq => (hp.below.cell (p := ⟨rb, rf + q, none⟩) e2).trans (e3 q hq), fun q => ?_⟩
    rcases q with q | q | q
    · exact (q2 t ht).1 q
    · exact (q2 t ht).2 q
    · exact q1 q
  · rintro e w' ⟨he, m', FK', FR', M', E', V', C', last', g⟩
    exact ⟨he, PX.after hp h1 h2 ht g⟩

theorem px_ended (hS : SortC) {B0 r n Wb t : Nat} {w0 w : World} {sb xb yb : Nat → Nat} {S : Nat → Sy} (h : PX B0 (r + 12) n Wb w0 w sb xb yb S) (ht : t < n) :
    Calls Tryz.prog 24 #[.pointer (some ⟨Wb, 0, none⟩), .pointer (some ⟨sb t, 0, none⟩)] w fun e w' => e = .returned (.bool true) ∧ PX B0 r n Wb w0 w' sb xb yb S := by
  obtain ⟨m, FK, FR, M, E, V, C, last, hp, h1, h2⟩ := h
  refine Calls.mono (ended_any hS (s := r) ⟨hp.st t ht, hp.s0 t ht, hp.s1 t ht, fun q => ?_, h1 t ht⟩) ?_
  · rcases q with q | q | q
    · exact hp.sn t t ht ht (.inl q)
    · exact hp.sn t t ht ht (.inr q)
    · exact hp.sm t ht q
  · rintro e w' ⟨he, m', FK', FR', M', E', V', C', last', g, _⟩
    exact ⟨he, PX.after hp h1 h2 ht g⟩

set_option maxRecDepth 100000 in
set_option maxHeartbeats 8000000 in
theorem play_0 {B0 Wb r ns cap : Nat} {w0 w : World} {sb xb yb : Nat → Nat} {S : Nat → Sy} {ao : Option Addr} (h : PX B0 r 0 Wb w0 w sb xb yb S) :
    Calls Tryz.prog 7 #[.pointer (some ⟨Wb, 0, none⟩), .slice ao ns cap] w fun e w' => e = .returned (.bool true) ∧ PX B0 0 0 Wb w0 w' sb xb yb S := by
  have HP : Hid (PX B0 r 0 Wb w0 w sb xb yb S) := h
  obtain ⟨vo, vc, hv0, hwl, _⟩ := h.side
  clear h
  have HK : Hid _ := HP.out.kept
  go_enter Tryz.func7, Tryz.ntmps7
  go_wp2_with fail
  refine Calls.mono HK.out ?_
  rintro e w1 ⟨rfl, hb1⟩
  have HE : Hid (PX B0 0 0 Wb w0 w1 sb xb yb S) := by
    obtain ⟨m, FK, FR, M, E, V, C, last, hp, h1, h2⟩ := HP.out.below hb1
    exact ⟨m, FK, FR, M, E, V, C, last, hp, fun i hi => by omega, fun i hi => by have := h2 i hi; omega⟩
  clear hb1
  go_wp2
  go_ret
  exact ⟨rfl, HE.out⟩

set_option maxRecDepth 100000 in
set_option maxHeartbeats 8000000 in
theorem play_1 (hS : SortC) {B0 Wb b off ns cap : Nat} {w0 w : World} {sb xb yb : Nat → Nat} {S : Nat → Sy} {X : OD} {ao : Option Addr} (h : PX B0 (ns + 24) 1 Wb w0 w sb xb yb S) (hns : ns ≤ 100000000) (hao : 1 ≤ ns → ao = some ⟨b, off, none⟩ ∧ b < B0) (hB0 : B0 ≤ w0.heap.size) (hX : OpsAt w0 B0 b off ns X) :
    Calls Tryz.prog 7 #[.pointer (some ⟨Wb, 0, none⟩), .slice ao ns cap] w fun e w' => e = .returned (.bool true) ∧ PX B0 0 1 Wb w0 w' sb xb yb S := by
  have HP : Hid (PX B0 (ns + 24) 1 Wb w0 w sb xb yb S) := h
  have HX : Hid (OpsAt w0 B0 b off ns X) := hX
  obtain ⟨vo, vc, hv0, hwl, _⟩ := h.side
  clear h hX
  go_enter Tryz.func7, Tryz.ntmps7
  go_wp2_with fail
  clear hv0 hwl
  go_loopw [6] (fun iv wr => ∃ i : Nat, i ≤ ns ∧ iv = .int .i64 i ∧ PX B0 (ns - i + 24) 1 Wb w0 wr sb xb yb S) (fun iv _ => ns - (intOf iv).toNat)
  case atStart => exact ⟨0, Nat.zero_le _, rfl, HP.out⟩
  case round =>
    obtain ⟨i, hi, rfl, hp⟩ := hrel
    obtain ⟨vo, vc, hv0, hwl, hsd⟩ := hp.side
    have hbel : Below B0 w0 wr := by
      obtain ⟨m, FK, FR, M, E, V, C, last, hps, _, _⟩ := hp
      exact hps.below
    by_cases hlt : i < ns
    · obtain ⟨x0, x1, x2, x3, x4, hL8, hR⟩ := HX.out i hlt
      obtain ⟨rfl, hb⟩ := hao (by omega)
      have d0 : wr.cell? ⟨b, off + i * 5, none⟩ = some (.int .i64 (X.K i)) := (hbel.cell (p := ⟨b, off + i * 5, none⟩) hb).trans x0
      have d1 : wr.cell? ⟨b, off + i * 5 + 1, none⟩ = some (.int .i64 (X.A i)) := (hbel.cell (p := ⟨b, off + i * 5 + 1, none⟩) hb).trans x1
      have d2 : wr.cell? ⟨b, off + i * 5 + 2, none⟩ = some (.int .i64 (X.B i)) := (hbel.cell (p := ⟨b, off + i * 5 + 2, none⟩) hb).trans x2
      have d3 : wr.cell? ⟨b, off + i * 5 + 3, none⟩ = some (.slice (X.P i) (X.L i) (X.C i)) := (hbel.cell (p := ⟨b, off + i * 5 + 3, none⟩) hb).trans x3
      have d4 : wr.cell? ⟨b, off + i * 5 + 4, none⟩ = some (.bool (X.W i)) := (hbel.cell (p := ⟨b, off + i * 5 + 4, none⟩) hb).trans x4
      have hbr : b < wr.heap.size := Nat.lt_of_lt_of_le (by omega) hbel.size
      obtain ⟨g, rfl, hgl, hg0⟩ := hsd 0 (by omega)
      obtain ⟨g', e', _, hg1⟩ := hsd 0 (by omega)
      cases e'
      obtain ⟨W1, hW1⟩ : ∃ W1, W1 = wr.alloc (.cells #[.int .i64 (X.K i), .int .i64 (X.A i), .int .i64 (X.B i), .slice (X.P i) (X.L i) (X.C i), .bool (X.W i)] 64) := ⟨_, rfl⟩
      have hb1 : Below wr.heap.size wr W1 := by rw [hW1]; exact below_alloc1 _ _
      have hp1 : PX B0 (ns - i - 1 + 24 + 1) 1 Wb w0 W1 sb xb yb S := by
        have := hp.below hb1
        rw [show ns - i + 24 = ns - i - 1 + 24 + 1 by omega] at this
        exact this
      have HST : Hid (∀ t, t < 1 → Calls Tryz.prog 23 #[.pointer (some ⟨Wb, 0, none⟩), .pointer (some ⟨sb t, 0, none⟩), .agg #[.int .i64 (X.K i), .int .i64 (X.A i), .int .i64 (X.B i), .slice (X.P i) (X.L i) (X.C i), .bool (X.W i)]] W1 fun e w' => e = .returned (.bool true) ∧ PX B0 (ns - i - 1 + 24) 1 Wb w0 w' sb xb yb S) := fun t ht => px_step hS hp1 ht hL8 hR
      have HW1 : Hid (W1 = wr.alloc (.cells #[.int .i64 (X.K i), .int .i64 (X.A i), .int .i64 (X.B i), .slice (X.P i) (X.L i) (X.C i), .bool (X.W i)] 64)) := hW1
      clear hp hp1 hb1 hW1 x0 x1 x2 x3 x4 hR hbel hsd
      generalize hxk : X.K i = xk at *
      generalize hxa : X.A i = xa at *
      generalize hxb : X.B i = xbb at *
      generalize hxp : X.P i = xp at *
      generalize hxl : X.L i = xl at *
      generalize hxc : X.C i = xc at *
      clear hxk hxa hxb hxp hxl hxc
      cases hw : X.W i with
      | false =>
        rw [hw] at d4 HST HW1
        clear hw
        go_wp2_with fail
        rw [← HW1.out]
        refine Calls.mono (HST.out 0 (by omega)) ?_
        rintro e w1 ⟨rfl, hq1⟩
        have HQ1 : Hid (PX B0 (ns - i - 1 + 24) 1 Wb w0 w1 sb xb yb S) := hq1
        clear hq1 HST HW1
        go_wp2_with fail
        refine Calls.mono HQ1.out.kept ?_
        rintro e w2 ⟨rfl, hb2⟩
        have HQ2 : Hid (PX B0 (ns - i - 1 + 24) 1 Wb w0 w2 sb xb yb S) := HQ1.out.below hb2
        clear hb2 HQ1
        go_wp2
        go_roundw
        case rel => exact ⟨i + 1, by omega, by go_num, by rw [show ns - (i + 1) + 24 = ns - i - 1 + 24 by omega]; exact HQ2.out⟩
        case measure => simp [intOf]; omega
      | true =>
        rw [hw] at d4 HST HW1
        clear hw
        go_wp2_with fail
        rw [← HW1.out]
        refine Calls.mono (HST.out 0 (by omega)) ?_
        rintro e w1 ⟨rfl, hq1⟩
        have HQ1 : Hid (PX B0 (ns - i - 1 + 24) 1 Wb w0 w1 sb xb yb S) := hq1
        clear hq1 HST HW1
        go_wp2_with fail
        refine Calls.mono HQ1.out.kept ?_
        rintro e w2 ⟨rfl, hb2⟩
        have HQ2 : Hid (PX B0 (ns - i - 1 + 24) 1 Wb w0 w2 sb xb yb S) := HQ1.out.below hb2
        clear hb2 HQ1
        go_wp2
        go_roundw
        case rel => exact ⟨i + 1, by omega, by go_num, by rw [show ns - (i + 1) + 24 = ns - i - 1 + 24 by omega]; exact HQ2.out⟩
        case measure => simp [intOf]; omega
    · obtain rfl : i = ns := by omega
      have HP2 : Hid (PX B0 (24 - 12 * 0) 1 Wb w0 wr sb xb yb S) := by
        have := hp
        rw [show i - i + 24 = 24 - 12 * 0 by omega] at this
        exact this
      clear hp hsd hbel hv0 hwl
      go_wp2_with fail
      go_loopw [11] (fun iv wr => ∃ i : Nat, i ≤ 1 ∧ iv = .int .i64 i ∧ PX B0 (24 - 12 * i) 1 Wb w0 wr sb xb yb S) (fun iv _ => 1 - (intOf iv).toNat)
      case atStart => exact ⟨0, Nat.zero_le _, rfl, HP2.out⟩
      case round =>
        obtain ⟨k, hk, rfl, hp⟩ := hrel
        have HQ : Hid (PX B0 (24 - 12 * k) 1 Wb w0 wr sb xb yb S) := hp
        by_cases hkn : k < 1
        · obtain ⟨vo, vc, hv0, hwl, hsd⟩ := hp.side
          obtain ⟨g, rfl, hgl, hgk⟩ := hsd k hkn
          have HEN : Hid _ := px_ended hS (r := 24 - 12 * (k + 1)) (t := k) (by rw [show 24 - 12 * (k + 1) + 12 = 24 - 12 * k by omega]; exact HQ.out) hkn
          clear hsd hp
          go_wp2_with fail
          refine Calls.mono HEN.out ?_
          rintro e w1 ⟨rfl, hq1⟩
          have HQ1 : Hid (PX B0 (24 - 12 * (k + 1)) 1 Wb w0 w1 sb xb yb S) := hq1
          clear hq1 HEN
          go_wp2
          go_roundw
          case rel => exact ⟨k + 1, by omega, by go_num, HQ1.out⟩
          case measure => simp [intOf]; omega
        · obtain rfl : k = 1 := by omega
          clear hp
          go_wp2_with fail
          refine Calls.mono HQ.out.kept ?_
          rintro e w1 ⟨rfl, hb1⟩
          have HE : Hid (PX B0 0 1 Wb w0 w1 sb xb yb S) := by
            obtain ⟨m, FK, FR, M, E, V, C, last, hp, h1, h2⟩ := HQ.out.below hb1
            exact ⟨m, FK, FR, M, E, V, C, last, hp, fun i hi => (h1 i hi).mono (by omega), fun i hi => by have := h2 i hi; omega⟩
          clear hb1
          go_wp2
          go_ret
          exact ⟨rfl, HE.out⟩

set_option maxRecDepth 100000 in
set_option maxHeartbeats 8000000 in
theorem play_2 (hS : SortC) {B0 Wb b off ns cap : Nat} {w0 w : World} {sb xb yb : Nat → Nat} {S : Nat → Sy} {X : OD} {ao : Option Addr} (h : PX B0 (ns + 24) 2 Wb w0 w sb xb yb S) (hns : ns ≤ 100000000) (hao : 1 ≤ ns → ao = some ⟨b, off, none⟩ ∧ b < B0) (hB0 : B0 ≤ w0.heap.size) (hX : OpsAt w0 B0 b off ns X) :
    Calls Tryz.prog 7 #[.pointer (some ⟨Wb, 0, none⟩), .slice ao ns cap] w fun e w' => e = .returned (.bool true) ∧ PX B0 0 2 Wb w0 w' sb xb yb S := by
  have HP : Hid (PX B0 (ns + 24) 2 Wb w0 w sb xb yb S) := h
  have HX : Hid (OpsAt w0 B0 b off ns X) := hX
  obtain ⟨vo, vc, hv0, hwl, _⟩ := h.side
  clear h hX
  go_enter Tryz.func7, Tryz.ntmps7
  go_wp2_with fail
  clear hv0 hwl
  go_loopw [6] (fun iv wr => ∃ i : Nat, i ≤ ns ∧ iv = .int .i64 i ∧ PX B0 (ns - i + 24) 2 Wb w0 wr sb xb yb S) (fun iv _ => ns - (intOf iv).toNat)
  case atStart => exact ⟨0, Nat.zero_le _, rfl, HP.out⟩
  case round =>
    obtain ⟨i, hi, rfl, hp⟩ := hrel
    obtain ⟨vo, vc, hv0, hwl, hsd⟩ := hp.side
    have hbel : Below B0 w0 wr := by
      obtain ⟨m, FK, FR, M, E, V, C, last, hps, _, _⟩ := hp
      exact hps.below
    by_cases hlt : i < ns
    · obtain ⟨x0, x1, x2, x3, x4, hL8, hR⟩ := HX.out i hlt
      obtain ⟨rfl, hb⟩ := hao (by omega)
      have d0 : wr.cell? ⟨b, off + i * 5, none⟩ = some (.int .i64 (X.K i)) := (hbel.cell (p := ⟨b, off + i * 5, none⟩) hb).trans x0
      have d1 : wr.cell? ⟨b, off + i * 5 + 1, none⟩ = some (.int .i64 (X.A i)) := (hbel.cell (p := ⟨b, off + i * 5 + 1, none⟩) hb).trans x1
      have d2 : wr.cell? ⟨b, off + i * 5 + 2, none⟩ = some (.int .i64 (X.B i)) := (hbel.cell (p := ⟨b, off + i * 5 + 2, none⟩) hb).trans x2
      have d3 : wr.cell? ⟨b, off + i * 5 + 3, none⟩ = some (.slice (X.P i) (X.L i) (X.C i)) := (hbel.cell (p := ⟨b, off + i * 5 + 3, none⟩) hb).trans x3
      have d4 : wr.cell? ⟨b, off + i * 5 + 4, none⟩ = some (.bool (X.W i)) := (hbel.cell (p := ⟨b, off + i * 5 + 4, none⟩) hb).trans x4
      have hbr : b < wr.heap.size := Nat.lt_of_lt_of_le (by omega) hbel.size
      obtain ⟨g, rfl, hgl, hg0⟩ := hsd 0 (by omega)
      obtain ⟨g', e', _, hg1⟩ := hsd 1 (by omega)
      cases e'
      obtain ⟨W1, hW1⟩ : ∃ W1, W1 = wr.alloc (.cells #[.int .i64 (X.K i), .int .i64 (X.A i), .int .i64 (X.B i), .slice (X.P i) (X.L i) (X.C i), .bool (X.W i)] 64) := ⟨_, rfl⟩
      have hb1 : Below wr.heap.size wr W1 := by rw [hW1]; exact below_alloc1 _ _
      have hp1 : PX B0 (ns - i - 1 + 24 + 1) 2 Wb w0 W1 sb xb yb S := by
        have := hp.below hb1
        rw [show ns - i + 24 = ns - i - 1 + 24 + 1 by omega] at this
        exact this
      have HST : Hid (∀ t, t < 2 → Calls Tryz.prog 23 #[.pointer (some ⟨Wb, 0, none⟩), .pointer (some ⟨sb t, 0, none⟩), .agg #[.int .i64 (X.K i), .int .i64 (X.A i), .int .i64 (X.B i), .slice (X.P i) (X.L i) (X.C i), .bool (X.W i)]] W1 fun e w' => e = .returned (.bool true) ∧ PX B0 (ns - i - 1 + 24) 2 Wb w0 w' sb xb yb S) := fun t ht => px_step hS hp1 ht hL8 hR
      have HW1 : Hid (W1 = wr.alloc (.cells #[.int .i64 (X.K i), .int .i64 (X.A i), .int .i64 (X.B i), .slice (X.P i) (X.L i) (X.C i), .bool (X.W i)] 64)) := hW1
      clear hp hp1 hb1 hW1 x0 x1 x2 x3 x4 hR hbel hsd
      generalize hxk : X.K i = xk at *
      generalize hxa : X.A i = xa at *
      generalize hxb : X.B i = xbb at *
      generalize hxp : X.P i = xp at *
      generalize hxl : X.L i = xl at *
      generalize hxc : X.C i = xc at *
      clear hxk hxa hxb hxp hxl hxc
      cases hw : X.W i with
      | false =>
        rw [hw] at d4 HST HW1
        clear hw
        go_wp2_with fail
        rw [← HW1.out]
        refine Calls.mono (HST.out 0 (by omega)) ?_
        rintro e w1 ⟨rfl, hq1⟩
        have HQ1 : Hid (PX B0 (ns - i - 1 + 24) 2 Wb w0 w1 sb xb yb S) := hq1
        clear hq1 HST HW1
        go_wp2_with fail
        refine Calls.mono HQ1.out.kept ?_
        rintro e w2 ⟨rfl, hb2⟩
        have HQ2 : Hid (PX B0 (ns - i - 1 + 24) 2 Wb w0 w2 sb xb yb S) := HQ1.out.below hb2
        clear hb2 HQ1
        go_wp2
        go_roundw
        case rel => exact ⟨i + 1, by omega, by go_num, by rw [show ns - (i + 1) + 24 = ns - i - 1 + 24 by omega]; exact HQ2.out⟩
        case measure => simp [intOf]; omega
      | true =>
        rw [hw] at d4 HST HW1
        clear hw
        go_wp2_with fail
        rw [← HW1.out]
        refine Calls.mono (HST.out 1 (by omega)) ?_
        rintro e w1 ⟨rfl, hq1⟩
        have HQ1 : Hid (PX B0 (ns - i - 1 + 24) 2 Wb w0 w1 sb xb yb S) := hq1
        clear hq1 HST HW1
        go_wp2_with fail
        refine Calls.mono HQ1.out.kept ?_
        rintro e w2 ⟨rfl, hb2⟩
        have HQ2 : Hid (PX B0 (ns - i - 1 + 24) 2 Wb w0 w2 sb xb yb S) := HQ1.out.below hb2
        clear hb2 HQ1
        go_wp2
        go_roundw
        case rel => exact ⟨i + 1, by omega, by go_num, by rw [show ns - (i + 1) + 24 = ns - i - 1 + 24 by omega]; exact HQ2.out⟩
        case measure => simp [intOf]; omega
    · obtain rfl : i = ns := by omega
      have HP2 : Hid (PX B0 (24 - 12 * 0) 2 Wb w0 wr sb xb yb S) := by
        have := hp
        rw [show i - i + 24 = 24 - 12 * 0 by omega] at this
        exact this
      clear hp hsd hbel hv0 hwl
      go_wp2_with fail
      go_loopw [11] (fun iv wr => ∃ i : Nat, i ≤ 2 ∧ iv = .int .i64 i ∧ PX B0 (24 - 12 * i) 2 Wb w0 wr sb xb yb S) (fun iv _ => 2 - (intOf iv).toNat)
      case atStart => exact ⟨0, Nat.zero_le _, rfl, HP2.out⟩
      case round =>
        obtain ⟨k, hk, rfl, hp⟩ := hrel
        have HQ : Hid (PX B0 (24 - 12 * k) 2 Wb w0 wr sb xb yb S) := hp
        by_cases hkn : k < 2
        · obtain ⟨vo, vc, hv0, hwl, hsd⟩ := hp.side
          obtain ⟨g, rfl, hgl, hgk⟩ := hsd k hkn
          have HEN : Hid _ := px_ended hS (r := 24 - 12 * (k + 1)) (t := k) (by rw [show 24 - 12 * (k + 1) + 12 = 24 - 12 * k by omega]; exact HQ.out) hkn
          clear hsd hp
          go_wp2_with fail
          refine Calls.mono HEN.out ?_
          rintro e w1 ⟨rfl, hq1⟩
          have HQ1 : Hid (PX B0 (24 - 12 * (k + 1)) 2 Wb w0 w1 sb xb yb S) := hq1
          clear hq1 HEN
          go_wp2
          go_roundw
          case rel => exact ⟨k + 1, by omega, by go_num, HQ1.out⟩
          case measure => simp [intOf]; omega
        · obtain rfl : k = 2 := by omega
          clear hp
          go_wp2_with fail
          refine Calls.mono HQ.out.kept ?_
          rintro e w1 ⟨rfl, hb1⟩
          have HE : Hid (PX B0 0 2 Wb w0 w1 sb xb yb S) := by
            obtain ⟨m, FK, FR, M, E, V, C, last, hp, h1, h2⟩ := HQ.out.below hb1
            exact ⟨m, FK, FR, M, E, V, C, last, hp, fun i hi => (h1 i hi).mono (by omega), fun i hi => by have := h2 i hi; omega⟩
          clear hb1
          go_wp2
          go_ret
          exact ⟨rfl, HE.out⟩

end Go.Proofs.YtdabcflpcklfiaaGreat
