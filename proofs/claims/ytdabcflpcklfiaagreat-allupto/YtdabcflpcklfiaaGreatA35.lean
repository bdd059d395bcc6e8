import Derived.Test.YtdabcflpcklfiaaGreatA34
/- The document's kernel, walked: a job's active priority. -/
namespace Go.Proofs.YtdabcflpcklfiaaGreat
open Go.RowKit Cad

theorem row7 (w : World) (a b c d e f g : Value) (t : Nat) : (w.alloc (.cells #[a, b, c, d, e, f, g] t)).rowIs w.heap.size t 7 (fun q => if q = 0 then a else if q = 1 then b else if q = 2 then c else if q = 3 then d else if q = 4 then e else if q = 5 then f else g) :=
  World.rowIs_alloc w #[a, b, c, d, e, f, g] t _ (fun i hi => by
    have hi' : i < 7 := hi
    match i, hi' with
    | 0, _ => rfl
    | 1, _ => rfl
    | 2, _ => rfl
    | 3, _ => rfl
    | 4, _ => rfl
    | 5, _ => rfl
    | 6, _ => rfl)

set_option maxRecDepth 100000 in
set_option maxHeartbeats 4000000 in
theorem active_any {w : World} {B kb tb tc pb pc n p : Nat} {T : TD} {Z : Nat → Int} {k : RK} {jv : Value} {dv : Nat → Option Addr × Nat} (h : RKAt w B kb tb tc pb pc n T Z k jv dv) (_hl : k.jobs.length ≤ 1000000000000000000) (hG : Good T n) (hP : PrioB Z n)
    {i t : Nat} {x : RJ} {hd : List Int} (hx : k.jobs[i]? = some x) (ht : t < n) (htk : x.task = t) (hf : Fits (T.K t) (T.N t) (T.L t) (fun q => x.dem.getD q 0) x.dem.length) (hpl : PL (T.K t) (numOf (T.K t) (T.N t) (fun q => x.dem.getD q 0)) (T.L t) p x.used) (hst : stTo (T.K t) (T.N t) p = some hd) (hu : 0 ≤ x.used ∧ x.used ≤ 10000) :
    Calls Tryz.prog 104 #[.pointer (some ⟨kb, 0, none⟩), .int .i64 i] w fun e w' => e = .returned (.int .i64 (actF (sysOf T Z n).C (Z t) hd)) ∧ Below w.heap.size w w' := by
  obtain ⟨g, cap, rfl, _, hgl, hcap, hc, _⟩ := h.job hx
  have hil := (List.getElem?_eq_some_iff.1 hx).1
  have c0 : w.cell? ⟨g, i * 7, none⟩ = some (.int .i64 (t : Int)) := by rw [← htk]; exact hc 0 _ rfl
  have c1 : w.cell? ⟨g, i * 7 + 1, none⟩ = some (.int .i64 x.arr) := hc 1 _ rfl
  have c2 : w.cell? ⟨g, i * 7 + 2, none⟩ = some (.int .i64 x.rel) := hc 2 _ rfl
  have c3 : w.cell? ⟨g, i * 7 + 3, none⟩ = some (.slice (dv i).1 x.dem.length (dv i).2) := hc 3 _ rfl
  have c4 : w.cell? ⟨g, i * 7 + 4, none⟩ = some (.int .i64 x.used) := hc 4 _ rfl
  have c5 : w.cell? ⟨g, i * 7 + 5, none⟩ = some (.int .i64 x.done) := hc 5 _ rfl
  have c6 : w.cell? ⟨g, i * 7 + 6, none⟩ = some (.int .i64 x.ended) := hc 6 _ rfl
  obtain ⟨k0, k1, k2, _⟩ := h.rc
  have hkl := h.row.lt
  have hpt : w.cell? ⟨pb, t, none⟩ = some (.int .i64 (Z t)) := by have := h.prio t ht; rwa [Nat.zero_add] at this
  have hpl2 := h.plt
  clear hc
  obtain ⟨hl1, hl16, _, hpi⟩ := progB_inv (hG.prog t ht)
  obtain ⟨W1, hW1⟩ : ∃ W1, W1 = (w.alloc (.cells #[.int .i64 (t : Int), .int .i64 x.arr, .int .i64 x.rel, .slice (dv i).1 x.dem.length (dv i).2, .int .i64 x.used, .int .i64 x.done, .int .i64 x.ended] 148)) := ⟨_, rfl⟩
  have hbx := row7 w (.int .i64 (t : Int)) (.int .i64 x.arr) (.int .i64 x.rel) (.slice (dv i).1 x.dem.length (dv i).2) (.int .i64 x.used) (.int .i64 x.done) (.int .i64 x.ended) 148
  rw [← hW1] at hbx
  have hb1 : Below w.heap.size w W1 := by rw [hW1]; exact below_alloc1 _ _
  have hs1 : W1.heap.size = w.heap.size + 1 := by rw [hW1]; exact World.size_alloc _ _
  obtain ⟨_, _, _, t3, tp⟩ := TasksAt.below h.tasks h.tlt hb1 t ht
  obtain ⟨sb, so, hAd, hsb, hstp⟩ := tp.2 hl1
  rw [hAd, Nat.zero_add] at t3
  have x0 : W1.cell? ⟨w.heap.size, 0, none⟩ = some (.int .i64 (t : Int)) := hbx.cell (by omega)
  have x3 : W1.cell? ⟨w.heap.size, 3, none⟩ = some (.slice (dv i).1 x.dem.length (dv i).2) := hbx.cell (by omega)
  have x4 : W1.cell? ⟨w.heap.size, 4, none⟩ = some (.int .i64 x.used) := hbx.cell (by omega)
  have j0 : W1.cell? ⟨kb, 0, none⟩ = some (.slice (some ⟨tb, 0, none⟩) n tc) := (hb1.cell (p := ⟨kb, 0, none⟩) hkl).trans k0
  have j1 : W1.cell? ⟨kb, 1, none⟩ = some (.slice (some ⟨pb, 0, none⟩) n pc) := (hb1.cell (p := ⟨kb, 1, none⟩) hkl).trans k1
  have jp : W1.cell? ⟨pb, t, none⟩ = some (.int .i64 (Z t)) := (hb1.cell (p := ⟨pb, t, none⟩) hpl2).trans hpt
  have HHE : Hid (∀ w1, Below W1.heap.size W1 w1 → Calls Tryz.prog 77 #[.slice (some ⟨sb, so, none⟩) (T.L t) (T.C t), .slice (dv i).1 x.dem.length (dv i).2, .int .i64 x.used] w1 fun e w2 => ∃ v, e = .returned v ∧ (w2.cell? ⟨kb, 0, none⟩ = some (.slice (some ⟨tb, 0, none⟩) n tc) ∧ w2.cell? ⟨w.heap.size, 0, none⟩ = some (.int .i64 (t : Int)) ∧ w2.cell? ⟨tb, t * 4 + 3, none⟩ = some (.slice (some ⟨sb, so, none⟩) (T.L t) (T.C t)) ∧ w2.cell? ⟨w.heap.size, 3, none⟩ = some (.slice (dv i).1 x.dem.length (dv i).2) ∧ w2.cell? ⟨w.heap.size, 4, none⟩ = some (.int .i64 x.used)) ∧ Hid (w2.ownsRow W1.heap.size 3 1 v hd.length (hd.map (Value.int .i64)) ∧ Below W1.heap.size W1 w2)) := by
    intro w1 hbw
    have hsz := hbw.size
    refine (held_any (hG.prog t ht) (by omega) (fun q hq => ⟨(hbw.cell (p := ⟨sb, so + q * 2, none⟩) hsb).trans (hstp q hq).1, (hbw.cell (p := ⟨sb, so + q * 2 + 1, none⟩) hsb).trans (hstp q hq).2⟩) (((h.dems i x hx).below hb1).below hbw) hf hpl hst hu).mono ?_
    rintro e w2 ⟨v, he, ho, hb2⟩
    have hb12 := hbw.trans (hb2.mono hsz)
    refine ⟨v, he, ⟨(hb12.cell (p := ⟨kb, 0, none⟩) (show kb < _ by omega)).trans j0, (hb12.cell (p := ⟨w.heap.size, 0, none⟩) (show w.heap.size < _ by omega)).trans x0, (hb12.cell (p := ⟨tb, t * 4 + 3, none⟩) (show tb < _ by have := h.tlt; omega)).trans t3, (hb12.cell (p := ⟨w.heap.size, 3, none⟩) (show w.heap.size < _ by omega)).trans x3, (hb12.cell (p := ⟨w.heap.size, 4, none⟩) (show w.heap.size < _ by omega)).trans x4⟩, ⟨ho.1, ?_⟩, hb12⟩
    rcases ho.2 with q | ⟨g, cp, cur, h1, h2, h3⟩
    · exact .inl q
    · exact .inr ⟨g, cp, cur, h1, by omega, h3⟩
  have HB1 : Hid (Below w.heap.size w W1) := hb1
  have HG : Hid (Good T n) := hG
  have HP : Hid (PrioB Z n) := hP
  have HT : Hid (TasksAt w tb 0 n T) := h.tasks
  have HZ : Hid (IntsAt w pb 0 n Z) := h.prio
  have htl := h.tlt
  have HST : Hid (stTo (T.K t) (T.N t) p = some hd) := hst
  have hn8 := hG.eight
  have hHL : hd.length ≤ 16 := by
    have h1 := Cad.stTo_len _ _ _ _ hst
    have h2 : p ≤ T.L t := by
      rcases hpl with ⟨_, g⟩ | ⟨_, g, _⟩ | ⟨_, g, _⟩ <;> omega
    omega
  have hzt := hP.1 t ht
  have HW1 : Hid (W1 = (w.alloc (.cells #[.int .i64 (t : Int), .int .i64 x.arr, .int .i64 x.rel, .slice (dv i).1 x.dem.length (dv i).2, .int .i64 x.used, .int .i64 x.done, .int .i64 x.ended] 148))) := hW1
  have HLK : Hid (∀ r ∈ hd, 0 ≤ r ∧ ∃ a, a < n ∧ Locks (T.K a) (T.N a) (T.L a) r) := by
    intro r hr
    obtain ⟨q, q1, q2, q3⟩ := st_mem _ hst hr
    have h2 : p ≤ T.L t := by
      rcases hpl with ⟨_, g⟩ | ⟨_, g, _⟩ | ⟨_, g, _⟩ <;> omega
    exact ⟨((prog_inv _ _ _ _ hst).rng r hr).1, t, ht, q, by omega, q2, q3⟩
  have hkw1 : kb < W1.heap.size := by omega
  have htw1 : tb < W1.heap.size := by omega
  have hpw1 : pb < W1.heap.size := by omega
  have hbw1 : w.heap.size < W1.heap.size := by omega
  clear hf hpl hst hx hG hP hW1 hbx hb1 tp hstp hAd hpi hsb hs1 h htk hu
  go_enter Tryz.func104, Tryz.ntmps104
  go_wp2_with fail
  rw [← HW1.out]
  generalize hbxe : w.heap.size = bx at *
  have HBXE : Hid (w.heap.size = bx) := hbxe
  clear HW1 hbxe c0 c1 c2 c3 c4 c5 c6 k0 k1 k2 hpt
  go_quiet (fail)
  go_wp2_with fail
  go_region_held (fun w' => w'.cell? ⟨kb, 0, none⟩ = some (.slice (some ⟨tb, 0, none⟩) n tc) ∧ w'.cell? ⟨bx, 0, none⟩ = some (.int .i64 (t : Int)) ∧ w'.cell? ⟨tb, t * 4 + 3, none⟩ = some (.slice (some ⟨sb, so, none⟩) (T.L t) (T.C t)) ∧ w'.cell? ⟨bx, 3, none⟩ = some (.slice (dv i).1 x.dem.length (dv i).2) ∧ w'.cell? ⟨bx, 4, none⟩ = some (.int .i64 x.used)) (first | go_keep | exact hcells) (first | (go_at_call 77; refine (HHE.out _ (below_drewM (Below.refl _ _) _)).mono ?_; rintro e w2 ⟨v, rfl, hcells, hks⟩))
  obtain ⟨hown, hb2⟩ := hks.out
  obtain ⟨ao2, cp2, rfl, hle2, hhc⟩ := own_shape hown
  have HHC : Hid (∀ q, q < hd.length → ∃ g2, ao2 = some ⟨g2, 0, none⟩ ∧ W1.heap.size ≤ g2 ∧ g2 < w2.heap.size ∧ w2.cell? ⟨g2, q, none⟩ = some (.int .i64 (hd.getD q 0))) := hhc
  have HB2 : Hid (Below W1.heap.size W1 w2) := hb2
  have HBW : Hid (Below w.heap.size w w2) := by
    unfold Hid
    rw [HBXE.out]
    exact HB1.out.trans (hb2.mono (by omega))
  have htl' : Hid (tb < w.heap.size ∧ pb < w.heap.size) := by unfold Hid; rw [HBXE.out]; exact ⟨htl, hpl2⟩
  have hs2 := hb2.size
  have q0 : w2.cell? ⟨kb, 0, none⟩ = some (.slice (some ⟨tb, 0, none⟩) n tc) := (hb2.cell (p := ⟨kb, 0, none⟩) hkw1).trans j0
  have q1 : w2.cell? ⟨kb, 1, none⟩ = some (.slice (some ⟨pb, 0, none⟩) n pc) := (hb2.cell (p := ⟨kb, 1, none⟩) hkw1).trans j1
  have HCE : Hid (∀ (r : Int) w1, r ∈ hd → Below w2.heap.size w2 w1 → Calls Tryz.prog 124 #[.slice (some ⟨tb, 0, none⟩) n tc, .slice (some ⟨pb, 0, none⟩) n pc, .int .i64 r] w1 fun e w' => e = .returned (.int .i64 ((sysOf T Z n).C r.toNat)) ∧ Below w1.heap.size w1 w') := by
    intro r w1 hr hb1'
    have hbb : Below w.heap.size w w1 := HBW.out.trans (hb1'.mono HBW.out.size)
    have hsz := hbb.size
    have htl2 := htl'.out
    refine (ceiling_any tb 0 n tc pb 0 pc T Z r w1 hn8 (by omega) (by omega) (TasksAt.below HT.out htl2.1 hbb) (fun a ha => (hbb.cell (p := ⟨pb, 0 + a, none⟩) htl2.2).trans (HZ.out a ha)) (fun a ha => HG.out.prog a ha)).mono ?_
    rintro e w' ⟨c, rfl, hc, hbc⟩
    obtain ⟨hr0, hlk⟩ := HLK.out r hr
    have hce := ceil_eq hc hlk (fun a ha => (HP.out.1 a ha).1) hr0 (fun a ha q hq h2 => by
      obtain ⟨_, _, _, hpi⟩ := progB_inv (HG.out.prog a ha)
      rcases hpi.steps q hq with g | g | g
      · omega
      · exact g.2.1
      · omega)
    exact ⟨by rw [hce], hbc⟩
  clear hks hcells hown hhc hb2 HHE x0 x3 x4 j0 j1 jp t3 hle2
  go_wp2_with fail
  go_loopw [6, 8] (fun av nv wr => ∃ q : Nat, q ≤ hd.length ∧ av = .int .i64 (actF (sysOf T Z n).C (Z t) (hd.take q)) ∧ nv = .int .i64 q ∧ Below w2.heap.size w2 wr) (fun _ nv _ => hd.length - (intOf nv).toNat)
  case atStart => exact ⟨0, Nat.zero_le _, rfl, rfl, Below.refl _ _⟩
  case round =>
    obtain ⟨q, hq, rfl, rfl, hbel⟩ := hrel
    have HB : Hid (Below w2.heap.size w2 wr) := hbel
    have hsr := hbel.size
    by_cases hql : q < hd.length
    · obtain ⟨g2, rfl, _, hg2, hc2⟩ := HHC.out q hql
      have y0 : wr.cell? ⟨kb, 0, none⟩ = some (.slice (some ⟨tb, 0, none⟩) n tc) := (hbel.cell (p := ⟨kb, 0, none⟩) (by show kb < w2.heap.size; omega)).trans q0
      have y1 : wr.cell? ⟨kb, 1, none⟩ = some (.slice (some ⟨pb, 0, none⟩) n pc) := (hbel.cell (p := ⟨kb, 1, none⟩) (by show kb < w2.heap.size; omega)).trans q1
      have y2 : wr.cell? ⟨g2, q, none⟩ = some (.int .i64 (hd.getD q 0)) := (hbel.cell (p := ⟨g2, q, none⟩) hg2).trans hc2
      have hmem : hd.getD q 0 ∈ hd := by
        rw [List.getD_eq_getElem?_getD, List.getElem?_eq_getElem hql]
        exact List.getElem_mem hql
      have HSN : Hid (actF (sysOf T Z n).C (Z t) (hd.take (q + 1)) = if actF (sysOf T Z n).C (Z t) (hd.take q) < (sysOf T Z n).C (hd.getD q 0).toNat then (sysOf T Z n).C (hd.getD q 0).toNat else actF (sysOf T Z n).C (Z t) (hd.take q)) := by
        unfold Hid
        have e : hd.take (q + 1) = hd.take q ++ [hd.getD q 0] := by
          rw [List.take_add_one, List.getD_eq_getElem?_getD, List.getElem?_eq_getElem hql]; rfl
        rw [e, actF_snoc]
      have HC1 : Hid (∀ w1, Below wr.heap.size wr w1 → Calls Tryz.prog 124 #[.slice (some ⟨tb, 0, none⟩) n tc, .slice (some ⟨pb, 0, none⟩) n pc, .int .i64 (hd.getD q 0)] w1 fun e w' => e = .returned (.int .i64 ((sysOf T Z n).C (hd.getD q 0).toNat)) ∧ (w'.cell? ⟨kb, 0, none⟩ = some (.slice (some ⟨tb, 0, none⟩) n tc) ∧ w'.cell? ⟨kb, 1, none⟩ = some (.slice (some ⟨pb, 0, none⟩) n pc) ∧ w'.cell? ⟨g2, q, none⟩ = some (.int .i64 (hd.getD q 0))) ∧ Hid (Below w2.heap.size w2 w')) := by
        intro w1 hb1'
        refine (HCE.out (hd.getD q 0) w1 hmem (HB.out.trans (hb1'.mono hsr))).mono ?_
        rintro e w' ⟨he, hb'⟩
        have hbb : Below wr.heap.size wr w' := hb1'.trans (hb'.mono hb1'.size)
        exact ⟨he, ⟨(hbb.cell (p := ⟨kb, 0, none⟩) (by show kb < wr.heap.size; omega)).trans y0, (hbb.cell (p := ⟨kb, 1, none⟩) (by show kb < wr.heap.size; omega)).trans y1, (hbb.cell (p := ⟨g2, q, none⟩) (by show g2 < wr.heap.size; omega)).trans y2⟩, HB.out.trans (hbb.mono hsr)⟩
      clear hbel hc2 hmem
      generalize hrr : hd.getD q 0 = rr at *
      generalize hcr : (sysOf T Z n).C rr.toNat = cr at *
      generalize hac : actF (sysOf T Z n).C (Z t) (hd.take q) = ac at *
      clear hrr hcr hac
      go_wp2_with fail
      go_region_held (fun w' => w'.cell? ⟨kb, 0, none⟩ = some (.slice (some ⟨tb, 0, none⟩) n tc) ∧ w'.cell? ⟨kb, 1, none⟩ = some (.slice (some ⟨pb, 0, none⟩) n pc) ∧ w'.cell? ⟨g2, q, none⟩ = some (.int .i64 rr)) (first | go_keep | exact hcells) (first | (go_at_call 124; refine (HC1.out _ (below_drewM (Below.refl _ _) _)).mono ?_; rintro e w5 ⟨rfl, hcells, hb5⟩))
      clear hcells
      by_cases hlt : ac < cr
      · have bl : decide (ac < cr) = true := decide_eq_true hlt
        have HS2 : Hid (actF (sysOf T Z n).C (Z t) (hd.take (q + 1)) = cr) := by
          have := HSN.out
          rw [if_pos hlt] at this
          exact this
        clear hlt
        go_wp2
        go_roundw
        case rel => exact ⟨q + 1, by omega, by rw [HS2.out], by go_num, hb5.out⟩
        case measure => simp [intOf]; omega
      · have bl : decide (ac < cr) = false := decide_eq_false hlt
        have HS2 : Hid (actF (sysOf T Z n).C (Z t) (hd.take (q + 1)) = ac) := by
          have := HSN.out
          rw [if_neg hlt] at this
          exact this
        clear hlt
        go_wp2
        go_roundw
        case rel => exact ⟨q + 1, by omega, by rw [HS2.out], by go_num, hb5.out⟩
        case measure => simp [intOf]; omega
    · obtain rfl : q = hd.length := by omega
      have e1 : hd.take hd.length = hd := List.take_length
      rw [e1]
      clear hbel
      go_wp2
      go_ret
      exact ⟨rfl, HBW.out.trans (HB.out.mono HBW.out.size)⟩

end Go.Proofs.YtdabcflpcklfiaaGreat
