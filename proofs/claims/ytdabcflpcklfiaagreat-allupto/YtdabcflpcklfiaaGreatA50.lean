import Derived.Test.YtdabcflpcklfiaaGreatA49
/- The law: New is asked. -/
namespace Go.Proofs.YtdabcflpcklfiaaGreat
open Go.RowKit Cad

/-- What the law's lists are behind a New. -/
structure OpenE (w w' : World) (Wb n : Nat) (M E M' E' : Nat → Prop) (V' : Nat → Value) (C C' : Nat → List Value) (last : Int) : Prop where
  lm : LM M' w' Wb V' C' last
  le : LE E' w' C'
  dis : Dis M' E'
  mf : ∀ q, M' q → M q ∨ (w.heap.size ≤ q ∧ q < w'.heap.size)
  ef : ∀ q, E' q → E q ∨ (w.heap.size ≤ q ∧ q < w'.heap.size)
  fr : Fr M w w'
  cl : ∀ i, i < 8 → (C' i).length ≤ (C i).length + n + 1
  c0 : C' 0 = C 0

theorem open_end {w w4 w5 w6 : World} {Wb n qb pn : Nat} {S : Nat → Nat} {M E M1 E1 : Nat → Prop} {V V1 : Nat → Value} {C C1 : Nat → List Value} {last : Int} {v' : Value} (hd : Dis M E) (loM : Lo M w.heap.size) (loE : Lo E w.heap.size) (hb : Below w.heap.size w w4) (hr : RetE w4 w5 Wb n w.heap.size S M E M1 E1 V V1 C C1 last) (hS : ∀ j, j < n → w.heap.size < S j ∧ S j < w4.heap.size) (hz : w.heap.size < w4.heap.size)
    (hq : w.heap.size < qb ∧ qb < w4.heap.size) (hlm : LM (Nx M1 w5.heap.size w6.heap.size) w6 Wb (upd V1 5 v') (upd C1 5 (C1 5 ++ [.slice (some ⟨qb, 0, none⟩) (pn + 1) (pn + 1)])) last) (hle : LE (fun q => E1 q ∨ q = qb) w6 (upd C1 5 (C1 5 ++ [.slice (some ⟨qb, 0, none⟩) (pn + 1) (pn + 1)]))) (hf : Fr (fun q => M1 q ∨ q = qb) w5 w6) :
    OpenE w w6 Wb n M E (Nx M1 w5.heap.size w6.heap.size) (fun q => E1 q ∨ q = qb) (upd V1 5 v') C (upd C1 5 (C1 5 ++ [.slice (some ⟨qb, 0, none⟩) (pn + 1) (pn + 1)])) last := by
  have z5 := hr.fr.size
  have z6 := hf.size
  have hM1 : ∀ q, M1 q → M q ∨ (w4.heap.size ≤ q ∧ q < w5.heap.size) := hr.mf
  have hE1 : ∀ q, E1 q → E q ∨ (w.heap.size ≤ q ∧ q < w4.heap.size) := fun q h => by
    rcases hr.ef q h with g | g | ⟨j, hj, g⟩
    · exact .inl g
    · exact .inr (by omega)
    · have := hS j hj; exact .inr (by omega)
  refine ⟨hlm, hle, fun q h1 h2 => ?_, fun q h => ?_, fun q h => ?_, ?_, fun i hi => ?_, ?_⟩
  · have hqe : E q ∨ (w.heap.size ≤ q ∧ q < w4.heap.size) := by
      rcases h2 with g | g
      · exact hE1 q g
      · exact .inr (by omega)
    rcases h1 with h1 | h1
    · rcases hM1 q h1 with g | g
      · rcases hqe with e | e
        · exact hd q g e
        · have := loM q g; omega
      · rcases hqe with e | e
        · have := loE q e; omega
        · omega
    · rcases hqe with e | e
      · have := loE q e; omega
      · omega
  · rcases h with h | h
    · rcases hM1 q h with g | g
      · exact .inl g
      · exact .inr (by omega)
    · exact .inr (by omega)
  · rcases h with h | h
    · rcases hE1 q h with g | g
      · exact .inl g
      · exact .inr (by omega)
    · exact .inr (by omega)
  · refine ((Fr.of_below M hb).trans hr.fr (fun q g => ?_)).trans hf (fun q g => ?_)
    · rcases g with g | g | ⟨j, hj, g⟩
      · exact .inl g
      · exact .inr (by omega)
      · have := hS j hj; exact .inr (by omega)
    · rcases g with g | g
      · rcases hM1 q g with e | e
        · exact .inl e
        · exact .inr (by omega)
      · exact .inr (by omega)
  · by_cases e5 : i = 5
    · subst e5
      rw [upd_same, List.length_append, List.length_singleton, (hr.cs 5 (by omega) (by decide) (by decide)).1]
      omega
    · rw [upd_other _ _ e5]
      by_cases e6 : i = 6
      · subst e6
        have := hr.cl.1
        omega
      · by_cases e7 : i = 7
        · subst e7
          have := hr.cl.2
          omega
        · rw [(hr.cs i hi e6 e7).1]
          omega
  · rw [upd_other _ _ (by decide)]
    exact (hr.cs 0 (by omega) (by decide) (by decide)).1

/-- The numbers that the law is asked with. -/
def PArg (w : World) (B0 pn : Nat) (ao : Option Addr) (Z : Nat → Int) : Prop := pn * 8 ≤ 140737488351232 ∧ (1 ≤ pn → ∃ pb po, ao = some ⟨pb, po, none⟩ ∧ pb < B0 ∧ IntsAt w pb po pn Z)

theorem lent_all {B0 b off n cap : Nat} {tO : Option Addr} {T : TD} {w : World} (ha : TArg w B0 b n tO off T) (hB0 : B0 ≤ w.heap.size) :
    Calls Tryz.prog 16 #[.slice tO n cap] w fun e w' => ∃ S v, e = .returned (.tuple #[.slice (some ⟨w.heap.size, 0, none⟩) (n + 1) (n + 1), v]) ∧ LentInv w.heap.size n n T S v w w' := by
  by_cases h1 : 1 ≤ n
  · obtain ⟨rfl, hb⟩ := ha.some' h1
    exact lent_some b off n cap T w h1 ha.n8 ha.l8 (by omega) ha.tasks
  · obtain rfl : n = 0 := by omega
    exact lent_none tO cap T w

theorem Tryz.info60 : (Tryz.prog.info? 60).map (fun i => (i.zero, i.size, i.bytes)) = some (some (.pointer none), 1, 8) := by kernel_rfl

/-- A side that was opened. -/
structure OSide (w w' : World) (Wb n : Nat) (M E M' E' : Nat → Prop) (V' : Nat → Value) (C C' : Nat → List Value) (last : Int) (S : Sy) (sd xb yb : Nat) (FK FR : Nat → Prop) : Prop where
  st : AS w' Wb xb yb S Cad.start FK FR M' E' V' C' last
  mf : ∀ q, M' q → M q ∨ (w.heap.size ≤ q ∧ q < w'.heap.size)
  ef : ∀ q, E' q → E q ∨ (w.heap.size ≤ q ∧ q < w'.heap.size)
  kf : ∀ q, FK q → w.heap.size ≤ q ∧ q < w'.heap.size
  rf : ∀ q, FR q → w.heap.size ≤ q ∧ q < w'.heap.size
  fr : Fr M w w'
  cl : ∀ i, i < 8 → (C' i).length ≤ (C i).length + n + 1
  c0 : C' 0 = C 0 ++ [.pointer (some ⟨sd, 0, none⟩)]
  s0 : w'.cell? ⟨sd, 0, none⟩ = some (.pointer (some ⟨xb, 0, none⟩))
  s1 : w'.cell? ⟨sd, 1, none⟩ = some (.pointer (some ⟨yb, 0, none⟩))
  sn : ¬ (FK sd ∨ FR sd ∨ M' sd)
  sl : w.heap.size ≤ sd

set_option maxRecDepth 100000 in
set_option maxHeartbeats 8000000 in
theorem opens_bad {B0 b off n cap Wb pn pc : Nat} {tO ao : Option Addr} {T : TD} {Z : Nat → Int} {w : World} {M E : Nat → Prop} {V : Nat → Value} {C : Nat → List Value} {last : Int} {Er Ax : Int} (hlm : LM M w Wb V C last) (hle : LE E w C) (hd : Dis M E) (loM : Lo M w.heap.size) (loE : Lo E w.heap.size) (hMB : ∀ q, M q → B0 ≤ q) (hC5 : ∀ i, i < 8 → (C i).length ≤ 100000000) (ha : TArg w B0 b n tO off T) (hp : PArg w B0 pn ao Z) (hB0 : B0 ≤ w.heap.size)
    (hbadK : ∀ (S : Nat → Nat) (wx : World), TasksAt wx w.heap.size 0 n (T.lent S) → w.heap.size < wx.heap.size → ∀ qb, qb < wx.heap.size → IntsAt wx qb 0 pn Z → Calls Tryz.prog 18 #[.slice (some ⟨w.heap.size, 0, none⟩) n (n + 1), .slice (some ⟨qb, 0, none⟩) pn (pn + 1)] wx fun e w' => e = .returned (.tuple #[.pointer none, .int .i64 Er, .int .i64 Ax]) ∧ Below wx.heap.size wx w')
    (hbadR : ∀ wx, Below w.heap.size w wx → Calls Tryz.prog 19 #[.slice tO n cap, .slice ao pn pc] wx fun e w' => e = .returned (.tuple #[.pointer none, .int .i64 Er, .int .i64 Ax]) ∧ Below wx.heap.size wx w')
    (hret : ∀ (w1 w5 : World) (S : Nat → Nat) (v : Value), LentInv w.heap.size n n T S v w w1 → Below w1.heap.size w1 w5 → Calls Tryz.prog 20 #[.pointer (some ⟨Wb, 0, none⟩), .slice (some ⟨w.heap.size, 0, none⟩) (n + 1) (n + 1), v, .slice tO n cap] w5 fun e w' => e = .returned (.bool true) ∧ ∃ M' E' V' C', RetE w5 w' Wb n w.heap.size S M E M' E' V V' C C' last) :
    Calls Tryz.prog 6 #[.pointer (some ⟨Wb, 0, none⟩), .slice tO n cap, .slice ao pn pc] w fun e w' => e = .returned (.bool true) ∧ ∃ M' E' V' C', OpenE w w' Wb n M E M' E' V' C C' last := by
  have HLT : Hid _ := lent_all (cap := cap) ha hB0
  have hp8 := hp.1
  have hn8 := ha.n8
  have HX : Hid (Dis M E ∧ Lo M w.heap.size ∧ Lo E w.heap.size ∧ ∀ q, M q → B0 ≤ q) := ⟨hd, loM, loE, hMB⟩
  have HA : Hid (TArg w B0 b n tO off T) := ha
  have HZ : Hid (1 ≤ pn → ∃ pb po, ao = some ⟨pb, po, none⟩ ∧ pb < B0 ∧ IntsAt w pb po pn Z) := hp.2
  have HRT : Hid _ := hret
  have HC5 : Hid (∀ i, i < 8 → (C i).length ≤ 100000000) := hC5
  have HLM : Hid (LM M w Wb V C last) := hlm
  have HLE0 : Hid (LE E w C) := hle
  have HBK : Hid _ := hbadK
  have HBR : Hid _ := hbadR
  clear hbadK hbadR
  clear hlm hle hd loM loE hMB hC5 ha hp hret
  go_enter Tryz.func6, Tryz.ntmps6
  go_wp2_with fail
  refine Calls.mono HLT.out ?_
  rintro e w1 ⟨S, v, rfl, hlent⟩
  obtain ⟨vo, vc, hvs⟩ := own_shapeK hlent.own
  subst hvs
  have HLE : Hid (LentInv w.heap.size n n T S (.slice vo n vc) w w1) := hlent
  have hlt1 : w.heap.size < w1.heap.size := hlent.lrow.lt
  have HB1 : Hid (Below w.heap.size w w1) := hlent.below
  have HTL : Hid (TasksAt w1 w.heap.size 0 n (T.lent S)) := lent_at hlent HA.out.l8
  clear hlent HLT
  go_wp2_with fail
  refine Calls.mono (lentInts_any ao pn pc Z _ hp8 (fun h => by
    obtain ⟨pb, po, e, hpb, hz⟩ := HZ.out h
    exact ⟨pb, po, e, by omega, IntsAt.below hz (by omega) HB1.out⟩)) ?_
  rintro e w2 ⟨rfl, hq2, hb2⟩
  have HQ2 : Hid (w2.rowIs w1.heap.size 3 (pn + 1) (lenf Z pn)) := hq2
  have HB2 : Hid (Below w1.heap.size w1 w2) := hb2
  have hs2 : w1.heap.size < w2.heap.size := hq2.lt
  have HZ2 : Hid (IntsAt w2 w1.heap.size 0 pn Z) := fun i hi => by
    rw [Nat.zero_add, hq2.cell (by omega)]
    unfold lenf
    rw [if_pos hi]
  have HB02 : Hid (Below w.heap.size w w2) := HB1.out.trans (hb2.mono (by omega))
  have HT2 : Hid (TasksAt w2 w.heap.size 0 n (T.lent S)) := TasksAt.below HTL.out hlt1 hb2
  clear hq2 hb2
  have HC3 : Hid (∀ wx, Below w2.heap.size w2 wx → Calls Tryz.prog 18 #[.slice (some ⟨w.heap.size, 0, none⟩) n (n + 1), .slice (some ⟨w1.heap.size, 0, none⟩) pn (pn + 1)] wx fun e w' => e = .returned (.tuple #[.pointer none, .int .i64 Er, .int .i64 Ax]) ∧ True ∧ Hid (Below w2.heap.size w2 w')) := by
    intro wx hbx
    have hz := hbx.size
    refine Calls.mono (HBK.out S wx (TasksAt.below HT2.out (by omega) hbx) (by omega) w1.heap.size (by omega) (IntsAt.below HZ2.out (by omega) hbx)) ?_
    rintro e w' ⟨he, hb⟩
    exact ⟨he, trivial, hbx.trans (hb.mono hz)⟩
  go_wp2_with fail
  go_region_held (fun _ => True) (first | go_keep | trivial) (first | (go_at_call 18; refine Calls.mono (HC3.out _ (below_drewM (Below.refl _ _) _)) ?_; rintro e w3 ⟨rfl, _, hb3⟩))
  all_goals
    have HB23 : Hid (Below w2.heap.size w2 w3) := hb3.out
    have HB03 : Hid (Below w.heap.size w w3) := HB02.out.trans (HB23.out.mono (by omega))
    have hs3 := HB23.out.size
    clear hb3 HC3
    go_wp2_with fail
    refine Calls.mono (HBR.out _ HB03.out) ?_
    rintro e w4 ⟨rfl, hb4⟩
    have HB34 : Hid (Below w3.heap.size w3 w4) := hb4
    have hs4 := hb4.size
    clear hb4
    have HB14 : Hid (Below w1.heap.size w1 w4) := HB2.out.trans ((HB23.out.trans (HB34.out.mono hs3)).mono (by omega))
    have HB04 : Hid (Below w.heap.size w w4) := HB1.out.trans (HB14.out.mono (by omega))
    have HRET : Hid _ := HRT.out w1 w4 S (.slice vo n vc) HLE.out HB14.out
    have HSL : Hid (∀ j, j < n → w.heap.size < S j ∧ S j < w1.heap.size) := fun j hj => ⟨HLE.out.sgt j hj, (HLE.out.srow j hj).lt⟩
    go_wp2_with fail
    refine Calls.mono HRET.out ?_
    rintro e w5 ⟨rfl, M1, E1, V1, C1, hre⟩
    have HRE : Hid (RetE w4 w5 Wb n w.heap.size S M E M1 E1 V V1 C C1 last) := hre
    have hs5 := hre.fr.size
    have hX5 : ∀ q, w1.heap.size ≤ q → q < w4.heap.size → w5.heap[q]? = w4.heap[q]? := fun q h1 h2 => hre.fr.block q h2 (fun g => by
      rcases g with g | g | ⟨j, hj, g⟩
      · have := HX.out.2.1 q g; omega
      · omega
      · have := HSL.out j hj; omega)
    have HX5 : Hid (∀ q, w1.heap.size ≤ q → q < w4.heap.size → w5.heap[q]? = w4.heap[q]?) := hX5
    have hX0 : ∀ q, q < B0 → w5.heap[q]? = w.heap[q]? := fun q h1 => (hre.fr.block q (by omega) (fun g => by
      rcases g with g | g | ⟨j, hj, g⟩
      · have := HX.out.2.2.2 q g; omega
      · omega
      · have := HSL.out j hj; omega)).trans (HB04.out.block q (by omega))
    have HQ5 : Hid (w5.rowIs w1.heap.size 3 (pn + 1) (lenf Z pn)) := ((HQ2.out.of_block (HB23.out.block _ hs2)).of_block (HB34.out.block _ (by omega))).of_block (hX5 _ (Nat.le_refl _) (by omega))
    have hqM : ¬ M1 w1.heap.size := fun g => by
      rcases hre.mf _ g with g | g
      · have := HX.out.2.1 _ g; omega
      · omega
    have hqE : ¬ E1 w1.heap.size := fun g => by
      rcases hre.ef _ g with g | g | ⟨j, hj, g⟩
      · have := HX.out.2.2.1 _ g; omega
      · omega
      · have := HSL.out j hj; omega
    have hd1 : Dis M1 E1 := fun q h1 h2 => by
      rcases hre.mf q h1 with g | g
      · rcases hre.ef q h2 with e | e | ⟨j, hj, e⟩
        · exact HX.out.1 q g e
        · have := HX.out.2.1 q g; omega
        · have := HX.out.2.1 q g; have := HSL.out j hj; omega
      · rcases hre.ef q h2 with e | e | ⟨j, hj, e⟩
        · have := HX.out.2.2.1 q e; omega
        · omega
        · have := HSL.out j hj; omega
    have HRI : Hid _ := retInts2_any (qb := w1.heap.size) (n := pn) (cap := pc) (ao := ao) (Z := Z) hre.lm hre.le hp8 HQ5.out hqM hqE hd1 (by rw [(hre.cs 5 (by omega) (by decide) (by decide)).1]; have := HC5.out 5 (by omega); omega) (fun h => by
      obtain ⟨pb, po, e, hpb, hz⟩ := HZ.out h
      exact ⟨pb, po, e, fun i hi => (cell_same (hX0 pb hpb)).trans (hz i hi)⟩)
    clear hre hX5 hX0 hqM hqE hd1 HRET
    go_wp2_with fail
    refine Calls.mono HRI.out ?_
    rintro e w6 ⟨rfl, v', hlm6, hle6, hf6⟩
    have HOP : Hid (OpenE w w6 Wb n M E _ _ _ C _ last) := open_end HX.out.1 HX.out.2.1 HX.out.2.2.1 HB04.out HRE.out (fun j hj => ⟨(HSL.out j hj).1, by have := (HSL.out j hj).2; omega⟩) (by omega) ⟨hlt1, by omega⟩ hlm6 hle6 hf6
    have hs6 := hf6.size
    clear hlm6 hle6 hf6 HRI
    have e1 : (Er != Er) = false := by simp
    have e2 : (Ax != Ax) = false := by simp
    go_wp2
    go_ret
    exact ⟨rfl, _, _, _, _, HOP.out⟩

set_option maxRecDepth 100000 in
set_option maxHeartbeats 8000000 in
theorem opens_ok {B0 b off n cap Wb pn pc : Nat} {tO ao : Option Addr} {T : TD} {Z : Nat → Int} {w : World} {M E : Nat → Prop} {V : Nat → Value} {C : Nat → List Value} {last : Int} (hlm : LM M w Wb V C last) (hle : LE E w C) (hd : Dis M E) (loM : Lo M w.heap.size) (loE : Lo E w.heap.size) (hMB : ∀ q, M q → B0 ≤ q) (hC5 : ∀ i, i < 8 → (C i).length ≤ 100000000) (ha : TArg w B0 b n tO off T) (hp : PArg w B0 pn ao Z) (hB0 : B0 ≤ w.heap.size)
    (hc : chkR T n = (0, 0)) (hpn : pn = n) (hpr : PrioB Z n)
    (hret : ∀ (w1 w5 : World) (S : Nat → Nat) (v : Value), LentInv w.heap.size n n T S v w w1 → Below w1.heap.size w1 w5 → Calls Tryz.prog 20 #[.pointer (some ⟨Wb, 0, none⟩), .slice (some ⟨w.heap.size, 0, none⟩) (n + 1) (n + 1), v, .slice tO n cap] w5 fun e w' => e = .returned (.bool true) ∧ ∃ M' E' V' C', RetE w5 w' Wb n w.heap.size S M E M' E' V V' C C' last) :
    Calls Tryz.prog 6 #[.pointer (some ⟨Wb, 0, none⟩), .slice tO n cap, .slice ao pn pc] w fun e w' => e = .returned (.bool true) ∧ ∃ M' E' V' C' sd xb yb FK FR, OSide w w' Wb n M E M' E' V' C C' last (sysOf T Z n) sd xb yb FK FR := by
  have HLT : Hid _ := lent_all (cap := cap) ha hB0
  have hp8 := hp.1
  have hn8 := ha.n8
  obtain ⟨i60, hi60, hz600, hz601, hz602⟩ := info_parts Tryz.info60
  obtain rfl := hpn
  have HX : Hid (Dis M E ∧ Lo M w.heap.size ∧ Lo E w.heap.size ∧ ∀ q, M q → B0 ≤ q) := ⟨hd, loM, loE, hMB⟩
  have HA : Hid (TArg w B0 b pn tO off T) := ha
  have HZ : Hid (1 ≤ pn → ∃ pb po, ao = some ⟨pb, po, none⟩ ∧ pb < B0 ∧ IntsAt w pb po pn Z) := hp.2
  have HRT : Hid _ := hret
  have HC5 : Hid (∀ i, i < 8 → (C i).length ≤ 100000000) := hC5
  have HLM : Hid (LM M w Wb V C last) := hlm
  have HLE0 : Hid (LE E w C) := hle
  have HC : Hid (chkR T pn = (0, 0)) := hc
  have HP : Hid (PrioB Z pn) := hpr
  have HG : Hid (Good T pn) := (good_of_chk hc).1
  have hone := (good_of_chk hc).1.one
  clear hc hpr
  clear hlm hle hd loM loE hMB hC5 ha hp hret
  go_enter Tryz.func6, Tryz.ntmps6
  go_wp2_with fail
  refine Calls.mono HLT.out ?_
  rintro e w1 ⟨S, v, rfl, hlent⟩
  obtain ⟨vo, vc, hvs⟩ := own_shapeK hlent.own
  subst hvs
  have HLE : Hid (LentInv w.heap.size pn pn T S (.slice vo pn vc) w w1) := hlent
  have hlt1 : w.heap.size < w1.heap.size := hlent.lrow.lt
  have HB1 : Hid (Below w.heap.size w w1) := hlent.below
  have HTL : Hid (TasksAt w1 w.heap.size 0 pn (T.lent S)) := lent_at hlent HA.out.l8
  clear hlent HLT
  go_wp2_with fail
  refine Calls.mono (lentInts_any ao pn pc Z _ hp8 (fun h => by
    obtain ⟨pb, po, e, hpb, hz⟩ := HZ.out h
    exact ⟨pb, po, e, by omega, IntsAt.below hz (by omega) HB1.out⟩)) ?_
  rintro e w2 ⟨rfl, hq2, hb2⟩
  have HQ2 : Hid (w2.rowIs w1.heap.size 3 (pn + 1) (lenf Z pn)) := hq2
  have HB2 : Hid (Below w1.heap.size w1 w2) := hb2
  have hs2 : w1.heap.size < w2.heap.size := hq2.lt
  have HZ2 : Hid (IntsAt w2 w1.heap.size 0 pn Z) := fun i hi => by
    rw [Nat.zero_add, hq2.cell (by omega)]
    unfold lenf
    rw [if_pos hi]
  have HB02 : Hid (Below w.heap.size w w2) := HB1.out.trans (hb2.mono (by omega))
  have HT2 : Hid (TasksAt w2 w.heap.size 0 pn (T.lent S)) := TasksAt.below HTL.out hlt1 hb2
  clear hq2 hb2
  have HC3 : Hid (∀ wx, Below w2.heap.size w2 wx → Calls Tryz.prog 18 #[.slice (some ⟨w.heap.size, 0, none⟩) pn (pn + 1), .slice (some ⟨w1.heap.size, 0, none⟩) pn (pn + 1)] wx fun e w' => ∃ kb, e = .returned (.tuple #[.pointer (some ⟨kb, 0, none⟩), .int .i64 0, .int .i64 0]) ∧ True ∧ Hid (Below w2.heap.size w2 w' ∧ KG (fun q => w2.heap.size ≤ q ∧ q < w'.heap.size) w' kb (sysOf T Z pn) Cad.start)) := by
    intro wx hbx
    have hz := hbx.size
    refine Calls.mono (new_ok w.heap.size 0 pn (pn + 1) w1.heap.size 0 (pn + 1) (T.lent S) Z wx HC.out (by omega) (by omega) (TasksAt.below HT2.out (by omega) hbx) (IntsAt.below HZ2.out (by omega) hbx) HP.out) ?_
    rintro e w' ⟨kb, Y, he, hk, hb, hft⟩
    exact ⟨kb, he, trivial, hbx.trans (hb.mono hz), Y, hk, fun q hq => ⟨by have := hft q hq; omega, hk.foot_lt hq⟩⟩
  go_wp2_with fail
  go_region_held (fun _ => True) (first | go_keep | trivial) (first | (go_at_call 18; refine Calls.mono (HC3.out _ (below_drewM (Below.refl _ _) _)) ?_; rintro e w3 ⟨kb, rfl, _, hb3⟩))
  all_goals
    have HB23 : Hid (Below w2.heap.size w2 w3) := hb3.out.1
    have HK3 : Hid (KG (fun q => w2.heap.size ≤ q ∧ q < w3.heap.size) w3 kb (sysOf T Z pn) Cad.start) := hb3.out.2
    have HB03 : Hid (Below w.heap.size w w3) := HB02.out.trans (HB23.out.mono (by omega))
    have hs3 := HB23.out.size
    clear hb3 HC3
    obtain ⟨htO, hbB⟩ := HA.out.some' hone
    subst htO
    obtain ⟨pb, po, hao, hpb, hzp⟩ := HZ.out hone
    subst hao
    have HRN : Hid _ := rnew_ok b off pn cap pb po pc T Z w3 HC.out (by omega) (by omega) (TasksAt.below HA.out.tasks (by omega) HB03.out) (IntsAt.below hzp (by omega) HB03.out) HP.out
    clear hzp
    go_wp2_with fail
    refine Calls.mono HRN.out ?_
    rintro e w4 ⟨yb, rfl, hR4, hb4⟩
    have HB34 : Hid (Below w3.heap.size w3 w4) := hb4
    have HR4 : Hid (RG (fun q => w3.heap.size ≤ q ∧ q < w4.heap.size) w4 yb (sysOf T Z pn) Cad.start) := hR4
    have hs4 := hb4.size
    clear hb4 hR4 HRN
    have HB14 : Hid (Below w1.heap.size w1 w4) := HB2.out.trans ((HB23.out.trans (HB34.out.mono hs3)).mono (by omega))
    have HB04 : Hid (Below w.heap.size w w4) := HB1.out.trans (HB14.out.mono (by omega))
    have HRET : Hid _ := HRT.out w1 w4 S (.slice vo pn vc) HLE.out HB14.out
    have HSL : Hid (∀ j, j < pn → w.heap.size < S j ∧ S j < w1.heap.size) := fun j hj => ⟨HLE.out.sgt j hj, (HLE.out.srow j hj).lt⟩
    go_wp2_with fail
    refine Calls.mono HRET.out ?_
    rintro e w5 ⟨rfl, M1, E1, V1, C1, hre⟩
    have HRE : Hid (RetE w4 w5 Wb pn w.heap.size S M E M1 E1 V V1 C C1 last) := hre
    have hs5 := hre.fr.size
    have hX5 : ∀ q, w1.heap.size ≤ q → q < w4.heap.size → w5.heap[q]? = w4.heap[q]? := fun q h1 h2 => hre.fr.block q h2 (fun g => by
      rcases g with g | g | ⟨j, hj, g⟩
      · have := HX.out.2.1 q g; omega
      · omega
      · have := HSL.out j hj; omega)
    have HX5 : Hid (∀ q, w1.heap.size ≤ q → q < w4.heap.size → w5.heap[q]? = w4.heap[q]?) := hX5
    have hX0 : ∀ q, q < B0 → w5.heap[q]? = w.heap[q]? := fun q h1 => (hre.fr.block q (by omega) (fun g => by
      rcases g with g | g | ⟨j, hj, g⟩
      · have := HX.out.2.2.2 q g; omega
      · omega
      · have := HSL.out j hj; omega)).trans (HB04.out.block q (by omega))
    have HQ5 : Hid (w5.rowIs w1.heap.size 3 (pn + 1) (lenf Z pn)) := ((HQ2.out.of_block (HB23.out.block _ hs2)).of_block (HB34.out.block _ (by omega))).of_block (hX5 _ (Nat.le_refl _) (by omega))
    have hqM : ¬ M1 w1.heap.size := fun g => by
      rcases hre.mf _ g with g | g
      · have := HX.out.2.1 _ g; omega
      · omega
    have hqE : ¬ E1 w1.heap.size := fun g => by
      rcases hre.ef _ g with g | g | ⟨j, hj, g⟩
      · have := HX.out.2.2.1 _ g; omega
      · omega
      · have := HSL.out j hj; omega
    have hd1 : Dis M1 E1 := fun q h1 h2 => by
      rcases hre.mf q h1 with g | g
      · rcases hre.ef q h2 with e | e | ⟨j, hj, e⟩
        · exact HX.out.1 q g e
        · have := HX.out.2.1 q g; omega
        · have := HX.out.2.1 q g; have := HSL.out j hj; omega
      · rcases hre.ef q h2 with e | e | ⟨j, hj, e⟩
        · have := HX.out.2.2.1 q e; omega
        · omega
        · have := HSL.out j hj; omega
    have HRI : Hid _ := retInts2_any (qb := w1.heap.size) (n := pn) (cap := pc) (ao := some ⟨pb, po, none⟩) (Z := Z) hre.lm hre.le hp8 HQ5.out hqM hqE hd1 (by rw [(hre.cs 5 (by omega) (by decide) (by decide)).1]; have := HC5.out 5 (by omega); omega) (fun h => by
      obtain ⟨pb, po, e, hpb, hz⟩ := HZ.out h
      exact ⟨pb, po, e, fun i hi => (cell_same (hX0 pb hpb)).trans (hz i hi)⟩)
    clear hre hX5 hX0 hqM hqE hd1 HRET
    go_wp2_with fail
    refine Calls.mono HRI.out ?_
    rintro e w6 ⟨rfl, v', hlm6, hle6, hf6⟩
    have HOP : Hid (OpenE w w6 Wb pn M E _ _ _ C _ last) := open_end HX.out.1 HX.out.2.1 HX.out.2.2.1 HB04.out HRE.out (fun j hj => ⟨(HSL.out j hj).1, by have := (HSL.out j hj).2; omega⟩) (by omega) ⟨hlt1, by omega⟩ hlm6 hle6 hf6
    have hs6 := hf6.size
    have HX6 : Hid (∀ q, w2.heap.size ≤ q → q < w4.heap.size → w6.heap[q]? = w4.heap[q]?) := fun q h1 h2 => (hf6.block q (by omega) (fun g => by
      rcases g with g | g
      · rcases HRE.out.mf q g with e | e
        · have := HX.out.2.1 q e; omega
        · omega
      · omega)).trans (HX5.out q (by omega) h2)
    clear hlm6 hle6 hf6 HRI
    have hlm6 := HOP.out.lm
    obtain ⟨M6, hM6⟩ : ∃ M6, M6 = Nx M1 w5.heap.size w6.heap.size := ⟨_, rfl⟩
    have HM6 : Hid (∀ q, M6 q → M q ∨ (w4.heap.size ≤ q ∧ q < w6.heap.size)) := fun q h => by
      rw [hM6] at h
      rcases h with h | h
      · rcases HRE.out.mf q h with e | e
        · exact .inl e
        · exact .inr (by omega)
      · exact .inr (by omega)
    rw [← hM6] at HOP hlm6
    obtain ⟨E6, hE6⟩ : ∃ E6, E6 = (fun q => E1 q ∨ q = w1.heap.size) := ⟨_, rfl⟩
    have HE6 : Hid (∀ q, E6 q → E q ∨ (w.heap.size ≤ q ∧ q < w2.heap.size)) := fun q h => by
      rw [hE6] at h
      rcases h with h | h
      · rcases HRE.out.ef q h with e | e | ⟨j, hj, e⟩
        · exact .inl e
        · exact .inr (by omega)
        · have := HSL.out j hj; exact .inr (by omega)
      · exact .inr (by omega)
    rw [← hE6] at HOP
    obtain ⟨V6, hV6⟩ : ∃ V6, V6 = upd V1 5 v' := ⟨_, rfl⟩
    rw [← hV6] at HOP hlm6
    generalize hC6 : upd C1 5 _ = C6 at *
    clear hM6 hE6 hV6 hC6 HRE
    obtain ⟨vo0, vc0, hv0⟩ := hlm6.shape (i := 0) (by omega)
    have a0 : w6.cell? ⟨Wb, 0, none⟩ = some (.slice vo0 (C6 0).length vc0) := by rw [← hv0]; exact hlm6.cellW (by omega)
    have hwl6 := hlm6.row.lt
    have az : ∀ q, w6.frozen? ⟨Wb, q, none⟩ = false := fun q => hlm6.row.frozen q
    have HV0 : Hid (V6 0 = .slice vo0 (C6 0).length vc0) := hv0
    have ho0 : w6.ownsRow 0 60 1 (.slice vo0 (C6 0).length vc0) (C6 0).length (C6 0) := by rw [← hv0]; exact hlm6.own 0 (by omega)
    have hc0 : (C6 0).length ≤ 100000000 := by rw [HOP.out.c0]; exact HC5.out 0 (by omega)
    clear hlm6 hv0
    go_wp2_with (at_builtin; refine wpList_append_own3 _ rfl _ _ 26 rfl 0 60 i60 (.pointer none) 1 8 Tryz.underlying26 hi60 hz600 hz601 hz602 rfl (by decide) _ _ _ rfl ((ho0.alloc _).alloc _) ⟨w6.heap.size + 1, 0, none⟩ 1 1 [.pointer (some ⟨w6.heap.size, 0, none⟩)] rfl rfl ?_ ?_ ?_ ?_ ?_ ?_)
    any_goals (first | exact rfl | exact cell_one_at _ _ (by rw [Deep.nblk_alloc]) _ _ | exact one_oneCell rfl | (unfold maxLen; omega) | omega)
    intro v9 w9 hown9 hg9
    obtain ⟨g9, c9, hv9⟩ := own_slice hown9
    have hX1 := (below_alloc1 w6 (.cells #[.pointer (some ⟨kb, 0, none⟩), .pointer (some ⟨yb, 0, none⟩)] 62)).trans ((below_alloc1 (w6.alloc (.cells #[.pointer (some ⟨kb, 0, none⟩), .pointer (some ⟨yb, 0, none⟩)] 62)) (.cells #[.pointer (some ⟨w6.heap.size, 0, none⟩)] 60)).mono (by rw [Deep.nblk_alloc]; omega))
    have hsdr : ((w6.alloc (.cells #[.pointer (some ⟨kb, 0, none⟩), .pointer (some ⟨yb, 0, none⟩)] 62)).alloc (.cells #[.pointer (some ⟨w6.heap.size, 0, none⟩)] 60)).rowIs w6.heap.size 62 2 (fun q => (#[Value.pointer (some ⟨kb, 0, none⟩), Value.pointer (some ⟨yb, 0, none⟩)] : Array Value).toList.getD q (.int .i64 0)) := (row_newA rfl).alloc _
    have hzX : ((w6.alloc (.cells #[.pointer (some ⟨kb, 0, none⟩), .pointer (some ⟨yb, 0, none⟩)] 62)).alloc (.cells #[.pointer (some ⟨w6.heap.size, 0, none⟩)] 60)).heap.size = w6.heap.size + 1 + 1 := by rw [Deep.nblk_alloc, Deep.nblk_alloc]
    generalize (w6.alloc (.cells #[.pointer (some ⟨kb, 0, none⟩), .pointer (some ⟨yb, 0, none⟩)] 62)).alloc (.cells #[.pointer (some ⟨w6.heap.size, 0, none⟩)] 60) = X at *
    have hg9' : Grew X w9 (V6 0) v9 := by rw [HV0.out]; exact hg9
    have hlmX := HOP.out.lm.below hX1
    obtain ⟨hpu1, hpu2⟩ := hlmX.push (i := 0) (by omega) (us := [.pointer (some ⟨w6.heap.size, 0, none⟩)]) hown9 hg9'
    have hrow9 := hlmX.row' (i := 0) (by omega) hg9'
    have b0 : w9.cell? ⟨Wb, 0, none⟩ = some (.slice vo0 (C6 0).length vc0) := by rw [hrow9.cell (by omega), ← HV0.out]; rfl
    have bz : ∀ q, w9.frozen? ⟨Wb, q, none⟩ = false := fun q => hrow9.frozen q
    have hwl9 := hrow9.lt
    have z9 := hg9.by'.size
    have HFIN : Hid (OSide w (w9.setCell ⟨Wb, 0, none⟩ v9) Wb pn M E (Nx M6 X.heap.size w9.heap.size) E6 (upd V6 0 v9) C (upd C6 0 (C6 0 ++ [.pointer (some ⟨w6.heap.size, 0, none⟩)])) last (sysOf T Z pn) w6.heap.size kb yb (fun q => w2.heap.size ≤ q ∧ q < w3.heap.size) (fun q => w3.heap.size ≤ q ∧ q < w4.heap.size)) := by
      have hzs : (w9.setCell ⟨Wb, 0, none⟩ v9).heap.size = w9.heap.size := Deep.nblk_setCell _ _ _
      have hM6r : ∀ q, w2.heap.size ≤ q → q < w4.heap.size → ¬ M6 q := fun q h1 h2 g => by
        rcases HM6.out q g with e | e
        · have := HX.out.2.1 q e; omega
        · omega
      have hfin : ∀ q, w2.heap.size ≤ q → q < w4.heap.size → (w9.setCell ⟨Wb, 0, none⟩ v9).heap[q]? = w4.heap[q]? := fun q h1 h2 => ((hpu2.block q (by omega) (hM6r q h1 h2)).trans (hX1.block q (by omega))).trans (HX6.out q h1 h2)
      have hK : KG (fun q => w2.heap.size ≤ q ∧ q < w3.heap.size) (w9.setCell ⟨Wb, 0, none⟩ v9) kb (sysOf T Z pn) Cad.start := by
        obtain ⟨Y, hy, ho⟩ := HK3.out.below HB34.out
        exact ⟨Y, hy.same (fun q hq => hfin q (ho q hq).1 (by have := (ho q hq).2; omega)), ho⟩
      have hfr4 : Fr (fun q => ¬ (w2.heap.size ≤ q ∧ q < w4.heap.size)) w4 (w9.setCell ⟨Wb, 0, none⟩ v9) := by
        have o1 := HOP.out.fr
        have o2 := HB04.out
        refine ⟨hpu2.os.trans (hX1.os.trans (o1.os.trans o2.os.symm)), hpu2.tape.trans (hX1.tape.trans (o1.tape.trans o2.tape.symm)), hpu2.output.trans (hX1.output.trans (o1.output.trans o2.output.symm)), by omega, fun q hq hn => ?_⟩
        by_cases c : w2.heap.size ≤ q ∧ q < w4.heap.size
        · exact hfin q c.1 c.2
        · exact absurd c hn
      have hR : RG (fun q => w3.heap.size ≤ q ∧ q < w4.heap.size) (w9.setCell ⟨Wb, 0, none⟩ v9) yb (sysOf T Z pn) Cad.start := HR4.out.other hfr4 (fun q h1 h2 => h2 ⟨by omega, h1.2⟩)
      have hsd : (w9.setCell ⟨Wb, 0, none⟩ v9).rowIs w6.heap.size 62 2 _ := hsdr.of_block (hpu2.block _ (by omega) (fun g => by
        rcases HM6.out _ g with e | e
        · have := HX.out.2.1 _ e; omega
        · omega))
      have hME : Dis M6 E6 := HOP.out.dis
      have hMN : ∀ q, Nx M6 X.heap.size w9.heap.size q → M q ∨ (w4.heap.size ≤ q ∧ q < w9.heap.size ∧ q ≠ w6.heap.size) := fun q h => by
        rcases h with h | h
        · rcases HM6.out q h with e | e
          · exact .inl e
          · exact .inr (by omega)
        · exact .inr (by omega)
      refine ⟨⟨⟨hK, hR, lk_start _, fun q h1 h2 => ?_, fun q h => ?_, fun q h => ?_⟩, hpu1, ?_, fun q h1 h2 => ?_, fun q h1 h2 => ?_, fun q h1 h2 => ?_, fun q h1 h2 => ?_, fun q h1 h2 => ?_, fun q h => ?_, fun q h => ?_⟩, fun q h => ?_, fun q h => ?_, fun q h => ?_, fun q h => ?_, ?_, fun i hi => ?_, ?_, hsd.cell (by omega), hsd.cell (by omega), fun h => ?_, by omega⟩
      · omega
      · rw [hzs]; omega
      · rw [hzs]; omega
      · have hle6 := (HOP.out.le.other (Fr.of_below (fun _ => False) hX1) (fun _ _ g => g)).other hpu2 hME.symm
        exact ⟨hle6.jlen, hle6.je, hle6.ilen, hle6.ie, hle6.te, hle6.pe, hle6.ke⟩
      · rcases h1 with h1 | h1
        · exact hME q h1 h2
        · rcases HE6.out q h2 with e | e
          · have := HX.out.2.2.1 q e; omega
          · omega
      · rcases hMN q h2 with e | e
        · have := HX.out.2.1 q e; omega
        · omega
      · rcases HE6.out q h2 with e | e
        · have := HX.out.2.2.1 q e; omega
        · omega
      · rcases hMN q h2 with e | e
        · have := HX.out.2.1 q e; omega
        · omega
      · rcases HE6.out q h2 with e | e
        · have := HX.out.2.2.1 q e; omega
        · omega
      · rw [hzs]
        rcases hMN q h with e | e
        · have := HX.out.2.1 q e; omega
        · omega
      · rw [hzs]
        rcases HE6.out q h with e | e
        · have := HX.out.2.2.1 q e; omega
        · omega
      · rw [hzs]
        rcases hMN q h with e | e
        · exact .inl e
        · exact .inr (by omega)
      · rw [hzs]
        rcases HE6.out q h with e | e
        · exact .inl e
        · exact .inr (by omega)
      · rw [hzs]; omega
      · rw [hzs]; omega
      · refine (HOP.out.fr.then (Fr.of_below _ hX1)).trans hpu2 (fun q g => ?_)
        rcases HM6.out q g with e | e
        · exact .inl e
        · exact .inr (by omega)
      · by_cases e : i = 0
        · subst e
          rw [upd_same, List.length_append, List.length_singleton, HOP.out.c0]
          omega
        · rw [upd_other _ _ e]
          exact HOP.out.cl i hi
      · rw [upd_same, HOP.out.c0]
      · rcases h with h | h | h
        · omega
        · omega
        · rcases hMN _ h with e | e
          · have := HX.out.2.1 _ e; omega
          · omega
    clear hown9 hg9 hg9' hpu1 hpu2 hrow9 hsdr hlmX hX1 ho0 a0 az
    subst hv9
    go_wp2
    go_ret
    exact ⟨rfl, _, _, _, _, _, _, _, _, _, HFIN.out⟩

end Go.Proofs.YtdabcflpcklfiaaGreat
