import Derived.Test.YtdabcflpcklfiaaGreatA36
/- The document's kernel, walked: a tick. -/
namespace Go.Proofs.YtdabcflpcklfiaaGreat
open Go.RowKit Cad

/-- Which job is the best so far. -/
def BestAt (S : Sy) (m : Mc) (t : Nat) (bi : Int) : Prop :=
  (bestTo S m t < 0 ∧ bi = -1) ∨ ∃ (a : Nat) (j : Jb) (r : List Jb), a < S.n ∧ bestTo S m t = (a : Int) ∧ m.q a = j :: r ∧ j.ord = bi

theorem best_skip {S : Sy} {m : Mc} {t : Nat} {bi : Int} (h : BestAt S m t bi) (hr : readyB m t = false) : BestAt S m (t + 1) bi := by
  have e : bestTo S m (t + 1) = bestTo S m t := by
    show (if readyB m t = true then _ else bestTo S m t) = _
    rw [if_neg (by rw [hr]; decide)]
  unfold BestAt
  rw [e]
  exact h

theorem RKAt.setJ' {w : World} {B kb tb tc pb pc n len : Nat} {T : TD} {Z : Nat → Int} {k : RK} {g cap : Nat} {dv : Nat → Option Addr × Nat} (hlen : len = k.jobs.length) (h : RKAt w B kb tb tc pb pc n T Z k (.slice (some ⟨g, 0, none⟩) len cap) dv) (ht : RKT w tb pb n T k dv) {i : Nat} {x x' : RJ} (hx : k.jobs[i]? = some x) (c : Nat) (v : Value) (hc : c < 7) (hd : x'.dem = x.dem) (he : rjc x' (dv i) = (rjc x (dv i)).set c v) :
    RKAt (w.setCell ⟨g, i * 7 + c, none⟩ v) B kb tb tc pb pc n T Z { k with jobs := k.jobs.set i x' } (.slice (some ⟨g, 0, none⟩) len cap) dv ∧ RKT (w.setCell ⟨g, i * 7 + c, none⟩ v) tb pb n T { k with jobs := k.jobs.set i x' } dv ∧ Fr (fun b => b = kb ∨ (Value.slice (some ⟨g, 0, none⟩) len cap).ownBlock = some b) w (w.setCell ⟨g, i * 7 + c, none⟩ v) := by
  subst hlen
  exact h.setJ ht hx c v hc hd he

set_option maxRecDepth 100000 in
set_option maxHeartbeats 8000000 in
theorem rtick_any {w : World} {B kb tb tc pb pc n : Nat} {T : TD} {Z : Nat → Int} {m : Mc} {k : RK} {jv : Value} {dv : Nat → Option Addr × Nat} (h : RKAt w B kb tb tc pb pc n T Z k jv dv) (hT : RKT w tb pb n T k dv) (hR : RR (sysOf T Z n) m k) (ho : Ok (sysOf T Z n) m) (hl : LkInv (sysOf T Z n) m) (hG : Good T n) (hP : PrioB Z n)
    (hnow : m.now < 1000000000000000000) (hlen : k.jobs.length ≤ 1000000000000000000) :
    Calls Tryz.prog 75 #[.pointer (some ⟨kb, 0, none⟩)] w fun e w' => e = .returned (.tuple #[.int .i64 (tick (sysOf T Z n) m).2.1, .bool (tick (sysOf T Z n) m).2.2]) ∧ ∃ k', RKAt w' B kb tb tc pb pc n T Z k' jv dv ∧ RKT w' tb pb n T k' dv ∧ RR (sysOf T Z n) (tick (sysOf T Z n) m).1 k' ∧ Fr (fun q => q = kb ∨ jv.ownBlock = some q) w w' := by
  have hso := syok_of hG hP
  have hn8 := hG.eight
  have hend : k.ended < 1000000000000000000 := by
    have h1 := hR.en
    have h2 := hR.now
    omega
  have HHD : Hid (∀ (t : Nat) (j : Jb) (r : List Jb), t < n → m.q t = j :: r → ∃ (i : Nat) (x : RJ) (hd : List Int), j.ord = (i : Int) ∧ k.jobs[i]? = some x ∧ JR (sysOf T Z n) t j x ∧ (∀ (i' : Nat) (y : RJ), i' < i → k.jobs[i']? = some y → ¬ (y.task = t ∧ y.done < 0)) ∧ stTo (T.K t) (T.N t) j.p = some hd ∧ actF (sysOf T Z n).C (Z t) hd = actP (sysOf T Z n) m t ∧ (0 < hd.length ↔ 0 < hasH (sysOf T Z n) m t) ∧ 0 ≤ x.used ∧ x.used ≤ 1600 ∧ (∀ q, q < x.dem.length → 1 ≤ x.dem.getD q 0 ∧ x.dem.getD q 0 ≤ 100) ∧ x.dem.length ≤ 16) := fun t j r ht hq => RR.head hso ho hl hR ht hq
  have HACT : Hid (∀ (t : Nat) (j : Jb) (r : List Jb) (i : Nat) (wr : World), t < n → m.q t = j :: r → j.ord = (i : Int) → Below w.heap.size w wr → Calls Tryz.prog 104 #[.pointer (some ⟨kb, 0, none⟩), .int .i64 i] wr fun e w' => e = .returned (.int .i64 (actP (sysOf T Z n) m t)) ∧ Below wr.heap.size wr w') := by
    intro t j r i wr ht hq hi hb
    obtain ⟨i', x, hd, e1, e2, e3, _, e5, e6, _, e8, e9, _⟩ := HHD.out t j r ht hq
    have : i' = i := by omega
    subst this
    refine (active_any (h.below hb) hlen hG hP e2 ht e3.task e3.fits e3.ur.pl e5 ⟨e8, by omega⟩).mono ?_
    rintro e w' ⟨he, hb'⟩
    exact ⟨by rw [he, e6], hb'⟩
  have HFN : Hid (∀ (t : Nat) (wr : World), t < n → m.q t = [] → Below w.heap.size w wr → Calls Tryz.prog 103 #[.pointer (some ⟨kb, 0, none⟩), .int .i64 t] wr fun e w' => e = .returned (.int .i64 (-1)) ∧ Below wr.heap.size wr w') := by
    intro t wr ht hq hb
    exact rfirst_any (h.below hb) hlen (by omega) (.inr ⟨rfl, hR.none hq⟩)
  have HFS : Hid (∀ (t : Nat) (j : Jb) (r : List Jb) (i : Nat) (wr : World), t < n → m.q t = j :: r → j.ord = (i : Int) → Below w.heap.size w wr → Calls Tryz.prog 103 #[.pointer (some ⟨kb, 0, none⟩), .int .i64 t] wr fun e w' => e = .returned (.int .i64 (i : Int)) ∧ Below wr.heap.size wr w') := by
    intro t j r i wr ht hq hi hb
    obtain ⟨i', x, hd, e1, e2, e3, e4, _⟩ := HHD.out t j r ht hq
    have : i' = i := by omega
    subst this
    exact rfirst_any (h.below hb) hlen (by omega) (.inl ⟨i', x, rfl, e2, e3.task, by have := e3.done; omega, e4⟩)
  have HRK : Hid (RKAt w B kb tb tc pb pc n T Z k jv dv) := h
  have HRT : Hid (RKT w tb pb n T k dv) := hT
  have HRR : Hid (RR (sysOf T Z n) m k) := hR
  have HO : Hid (Ok (sysOf T Z n) m) := ho
  have HSO : Hid (SyOk (sysOf T Z n)) := hso
  have HLK : Hid (LkInv (sysOf T Z n) m) := hl
  have HG : Hid (Good T n) := hG
  have hkl := h.row.lt
  have HNW : Hid (k.now = m.now) := hR.now
  clear h hT hR ho hso hl hG hP
  go_enter Tryz.func75, Tryz.ntmps75
  go_wp2_with fail
  go_loopw [4, 5] (fun bv tw wr => ∃ (t : Nat) (bi : Int), t ≤ n ∧ bv = .int .i64 bi ∧ tw = .int .i64 t ∧ BestAt (sysOf T Z n) m t bi ∧ Below w.heap.size w wr) (fun _ tw _ => n - (intOf tw).toNat)
  case atStart => exact ⟨0, -1, Nat.zero_le _, rfl, rfl, .inl ⟨by show (-1 : Int) < 0; decide, rfl⟩, Below.refl _ _⟩
  case round =>
    obtain ⟨t, bi, ht, rfl, rfl, hbest, hbel⟩ := hrel
    have HB : Hid (Below w.heap.size w wr) := hbel
    have HBE : Hid (BestAt (sysOf T Z n) m t bi) := hbest
    have k0 : wr.cell? ⟨kb, 0, none⟩ = some (.slice (some ⟨tb, 0, none⟩) n tc) := (HRK.out.below hbel).rc.1
    have hsz := hbel.size
    clear hbest hbel
    by_cases htn : t < n
    · cases hq : m.q t with
      | nil =>
        have hrd : readyB m t = false := by unfold readyB; rw [hq]
        have HF := HFN.out t wr htn hq HB.out
        have HNX : Hid (BestAt (sysOf T Z n) m (t + 1) bi) := best_skip HBE.out hrd
        clear hq hrd
        go_wp2_with fail
        refine HF.mono ?_
        rintro e w3 ⟨rfl, hb3⟩
        have HB3 : Hid (Below w.heap.size w w3) := HB.out.trans (hb3.mono hsz)
        clear hb3 HF k0
        go_wp2_with fail
        go_quiet (fail)
        go_wp2
        go_roundw
        case rel => exact ⟨t + 1, bi, by omega, rfl, by go_num, HNX.out, below_drewM HB3.out _⟩
        case measure => simp [intOf]; omega
      | cons j r =>
        obtain ⟨i, x, hd, e1, e2, e3, e4, e5, e6, e7, e8, e9, e10, e11⟩ := HHD.out t j r htn hq
        have HF := HFS.out t j r i wr htn hq e1 HB.out
        have HQ : Hid (m.q t = j :: r) := hq
        have HJ : Hid (JR (sysOf T Z n) t j x) := e3
        have HX : Hid (k.jobs[i]? = some x) := e2
        have HST : Hid (stTo (T.K t) (T.N t) j.p = some hd) := e5
        have HHH : Hid (0 < hd.length ↔ 0 < hasH (sysOf T Z n) m t) := e7
        have HOI : Hid (j.ord = (i : Int)) := e1
        clear e1 e2 e3 e4 e5 e6 e7 e10 hq
        go_wp2_with fail
        refine HF.mono ?_
        rintro e w3 ⟨rfl, hb3⟩
        have HB3 : Hid (Below w.heap.size w w3) := HB.out.trans (hb3.mono hsz)
        have h3 := HRK.out.below HB3.out
        obtain ⟨g, cap, hjv, _, hgl, hcap, hc, _⟩ := h3.job HX.out
        subst hjv
        obtain ⟨y0, y1, y2, y3, _⟩ := h3.rc
        rw [HNW.out] at y3
        have hk3 := h3.row.lt
        have c2 : w3.cell? ⟨g, i * 7 + 2, none⟩ = some (.int .i64 x.rel) := hc 2 _ rfl
        have c3 : w3.cell? ⟨g, i * 7 + 3, none⟩ = some (.slice (dv i).1 x.dem.length (dv i).2) := hc 3 _ rfl
        have c4 : w3.cell? ⟨g, i * 7 + 4, none⟩ = some (.int .i64 x.used) := hc 4 _ rfl
        have hil := (List.getElem?_eq_some_iff.1 HX.out).1
        have bi0 : decide ((i : Int) < 0) = false := decide_eq_false (by omega)
        clear hb3 HF k0 h3 hc
        by_cases hrd : x.rel ≤ m.now
        · have br : decide (m.now < x.rel) = false := decide_eq_false (by omega)
          have hready : readyB m t = true := by
            unfold readyB
            rw [HQ.out]
            exact decide_eq_true (by rw [← HJ.out.rel]; exact hrd)
          have HRY : Hid (readyB m t = true) := hready
          rcases HBE.out with ⟨b1, b2⟩ | ⟨a, ja, ra, a1, a2, a3, a4⟩
          · subst b2
            have HNX : Hid (BestAt (sysOf T Z n) m (t + 1) (i : Int)) := by
              refine .inr ⟨t, j, r, htn, ?_, HQ.out, HOI.out⟩
              show (if readyB m t = true then _ else _) = _
              rw [if_pos HRY.out, if_pos b1]
            clear b1 hready hrd
            generalize x.rel = xr at *
            go_wp2_with fail
            go_quiet (fail)
            go_wp2
            go_roundw
            case rel => exact ⟨t + 1, (i : Int), by omega, rfl, by go_num, HNX.out, below_drewM HB3.out _⟩
            case measure => simp [intOf]; omega
          · obtain ⟨ib, xb, _, f1, _⟩ := HHD.out a ja ra a1 a3
            have hbi : bi = (ib : Int) := by omega
            subst hbi
            have bib : decide ((ib : Int) < 0) = false := decide_eq_false (by omega)
            have HNB : Hid (bestTo (sysOf T Z n) m (t + 1) = if actP (sysOf T Z n) m a < actP (sysOf T Z n) m t ∨ (actP (sysOf T Z n) m t = actP (sysOf T Z n) m a ∧ 0 < hasH (sysOf T Z n) m t) then (t : Int) else (a : Int)) := by
              have e : bestTo (sysOf T Z n) m (t + 1) = if readyB m t = true then (if bestTo (sysOf T Z n) m t < 0 then (t : Int) else if actP (sysOf T Z n) m (bestTo (sysOf T Z n) m t).toNat < actP (sysOf T Z n) m t ∨ (actP (sysOf T Z n) m t = actP (sysOf T Z n) m (bestTo (sysOf T Z n) m t).toNat ∧ 0 < hasH (sysOf T Z n) m t) then (t : Int) else bestTo (sysOf T Z n) m t) else bestTo (sysOf T Z n) m t := rfl
              rw [a2, if_pos HRY.out, if_neg (by omega), Int.toNat_natCast] at e
              exact e
            have HY : Hid (BestAt (sysOf T Z n) m (t + 1) (i : Int) ∨ ¬ (actP (sysOf T Z n) m a < actP (sysOf T Z n) m t ∨ (actP (sysOf T Z n) m t = actP (sysOf T Z n) m a ∧ 0 < hasH (sysOf T Z n) m t))) := by
              by_cases c : actP (sysOf T Z n) m a < actP (sysOf T Z n) m t ∨ (actP (sysOf T Z n) m t = actP (sysOf T Z n) m a ∧ 0 < hasH (sysOf T Z n) m t)
              · refine .inl (.inr ⟨t, j, r, htn, ?_, HQ.out, HOI.out⟩)
                have := HNB.out
                rw [if_pos c] at this
                exact this
              · exact .inr c
            have HN : Hid (BestAt (sysOf T Z n) m (t + 1) (ib : Int) ∨ (actP (sysOf T Z n) m a < actP (sysOf T Z n) m t ∨ (actP (sysOf T Z n) m t = actP (sysOf T Z n) m a ∧ 0 < hasH (sysOf T Z n) m t))) := by
              by_cases c : actP (sysOf T Z n) m a < actP (sysOf T Z n) m t ∨ (actP (sysOf T Z n) m t = actP (sysOf T Z n) m a ∧ 0 < hasH (sysOf T Z n) m t)
              · exact .inr c
              · refine .inl (.inr ⟨a, ja, ra, a1, ?_, a3, a4⟩)
                have := HNB.out
                rw [if_neg c] at this
                exact this
            have HA1 : Hid (∀ wr, Below w.heap.size w wr → Calls Tryz.prog 104 #[.pointer (some ⟨kb, 0, none⟩), .int .i64 i] wr fun e w' => e = .returned (.int .i64 (actP (sysOf T Z n) m t)) ∧ Below wr.heap.size wr w') := fun wr hb => HACT.out t j r i wr htn HQ.out HOI.out hb
            have HA2 : Hid (∀ wr, Below w.heap.size w wr → Calls Tryz.prog 104 #[.pointer (some ⟨kb, 0, none⟩), .int .i64 ib] wr fun e w' => e = .returned (.int .i64 (actP (sysOf T Z n) m a)) ∧ Below wr.heap.size wr w') := fun wr hb => HACT.out a ja ra ib wr a1 a3 f1 hb
            clear a1 a2 a3 a4 f1 hready hrd HNB HBE
            generalize x.rel = xr at *
            go_wp2_with fail
            go_quiet (fail)
            go_wp2_with fail
            refine (HA1.out _ (below_drewM HB3.out _)).mono ?_
            rintro e w4 ⟨rfl, hb4⟩
            have HB4 : Hid (Below w.heap.size w w4) := (below_drewM HB3.out _).trans (hb4.mono (below_drewM HB3.out _).size)
            clear hb4 HA1
            go_wp2_with fail
            refine (HA2.out _ HB4.out).mono ?_
            rintro e w5 ⟨rfl, hb5⟩
            have HB5 : Hid (Below w.heap.size w w5) := HB4.out.trans (hb5.mono HB4.out.size)
            clear hb5 HA2 y0 y1 y2 y3 c2 c3 c4 hk3 hgl
            have h5 := HRK.out.below HB5.out
            obtain ⟨g', cap', hjv', _, hgl5, _, hc5, _⟩ := h5.job HX.out
            cases hjv'
            obtain ⟨y0, _, y2, _⟩ := h5.rc
            have d3 : w5.cell? ⟨g, i * 7 + 3, none⟩ = some (.slice (dv i).1 x.dem.length (dv i).2) := hc5 3 _ rfl
            have d4 : w5.cell? ⟨g, i * 7 + 4, none⟩ = some (.int .i64 x.used) := hc5 4 _ rfl
            obtain ⟨hl1, hl16, _, _⟩ := progB_inv (HG.out.prog t htn)
            obtain ⟨_, _, _, t3, tp⟩ := h5.tasks t htn
            obtain ⟨sb, so, hAd, hsb, hstp⟩ := tp.2 hl1
            rw [hAd, Nat.zero_add] at t3
            have hk5 := h5.row.lt
            have ht5 := h5.tlt
            have HHE : Hid (∀ w1, Below w5.heap.size w5 w1 → Calls Tryz.prog 77 #[.slice (some ⟨sb, so, none⟩) (T.L t) (T.C t), .slice (dv i).1 x.dem.length (dv i).2, .int .i64 x.used] w1 fun e w2 => ∃ ao cp, e = .returned (.slice ao hd.length cp) ∧ (w2.cell? ⟨kb, 0, none⟩ = some (.slice (some ⟨tb, 0, none⟩) n tc) ∧ w2.cell? ⟨tb, t * 4 + 3, none⟩ = some (.slice (some ⟨sb, so, none⟩) (T.L t) (T.C t)) ∧ w2.cell? ⟨kb, 2, none⟩ = some (.slice (some ⟨g, 0, none⟩) k.jobs.length cap) ∧ w2.cell? ⟨g, i * 7 + 3, none⟩ = some (.slice (dv i).1 x.dem.length (dv i).2) ∧ w2.cell? ⟨g, i * 7 + 4, none⟩ = some (.int .i64 x.used)) ∧ Hid (Below w.heap.size w w2)) := by
              intro w1 hbw
              have hsz' := hbw.size
              refine (held_any (HG.out.prog t htn) (by omega) (fun q hq => ⟨(hbw.cell (p := ⟨sb, so + q * 2, none⟩) hsb).trans (hstp q hq).1, (hbw.cell (p := ⟨sb, so + q * 2 + 1, none⟩) hsb).trans (hstp q hq).2⟩) ((h5.dems i x HX.out).below hbw) HJ.out.fits HJ.out.ur.pl HST.out ⟨e8, by omega⟩).mono ?_
              rintro e w2 ⟨v, he, hov, hb2⟩
              obtain ⟨ao, cp, rfl, _⟩ := own_shape hov
              have hb12 := hbw.trans (hb2.mono hsz')
              exact ⟨ao, cp, he, ⟨(hb12.cell (p := ⟨kb, 0, none⟩) hk5).trans y0, (hb12.cell (p := ⟨tb, t * 4 + 3, none⟩) ht5).trans t3, (hb12.cell (p := ⟨kb, 2, none⟩) hk5).trans y2, (hb12.cell (p := ⟨g, i * 7 + 3, none⟩) hgl5).trans d3, (hb12.cell (p := ⟨g, i * 7 + 4, none⟩) hgl5).trans d4⟩, HB5.out.trans (hb12.mono HB5.out.size)⟩
            have hHL : hd.length ≤ 16 := by
              have h1 := Cad.stTo_len _ _ _ _ HST.out
              have h2 := HO.out.job t htn j (by rw [HQ.out]; simp)
              have h3 : j.p < T.L t := h2.1.lt
              omega
            clear h5 hc5 tp hstp hAd hsb
            generalize hat : actP (sysOf T Z n) m t = pt at *
            generalize hab : actP (sysOf T Z n) m a = pa at *
            generalize hhl : hd.length = hln at *
            clear hat hab hhl
            go_wp2_with fail
            go_region_held (fun w' => w'.cell? ⟨kb, 0, none⟩ = some (.slice (some ⟨tb, 0, none⟩) n tc) ∧ w'.cell? ⟨tb, t * 4 + 3, none⟩ = some (.slice (some ⟨sb, so, none⟩) (T.L t) (T.C t)) ∧ w'.cell? ⟨kb, 2, none⟩ = some (.slice (some ⟨g, 0, none⟩) k.jobs.length cap) ∧ w'.cell? ⟨g, i * 7 + 3, none⟩ = some (.slice (dv i).1 x.dem.length (dv i).2) ∧ w'.cell? ⟨g, i * 7 + 4, none⟩ = some (.int .i64 x.used)) (first | go_keep | exact hcells) (first | (go_at_call 77; refine (HHE.out _ (below_drewM (Below.refl _ _) _)).mono ?_; rintro e w6 ⟨ao6, cp6, rfl, hcells, hb6⟩))
            clear hcells HHE
            by_cases q1 : pa < pt
            · have b1 : decide (pa < pt) = true := decide_eq_true q1
              have HNX : Hid (BestAt (sysOf T Z n) m (t + 1) (i : Int)) := by
                rcases HY.out with c | c
                · exact c
                · exact absurd (.inl q1) c
              clear q1
              go_wp2
              go_roundw
              case rel => exact ⟨t + 1, (i : Int), by omega, rfl, by go_num, HNX.out, hb6.out⟩
              case measure => simp [intOf]; omega
            · have b1 : decide (pa < pt) = false := decide_eq_false q1
              by_cases q2 : pt = pa
              · have b2 : (pt == pa) = true := by rw [beq_iff_eq]; exact q2
                by_cases q3 : 0 < hln
                · have b3 : decide (0 < hln) = true := decide_eq_true q3
                  have HNX : Hid (BestAt (sysOf T Z n) m (t + 1) (i : Int)) := by
                    rcases HY.out with c | c
                    · exact c
                    · exact absurd (.inr ⟨q2, HHH.out.1 q3⟩) c
                  clear q1 q2 q3
                  go_wp2
                  go_roundw
                  case rel => exact ⟨t + 1, (i : Int), by omega, rfl, by go_num, HNX.out, hb6.out⟩
                  case measure => simp [intOf]; omega
                · have b3 : decide (0 < hln) = false := decide_eq_false q3
                  have HNX : Hid (BestAt (sysOf T Z n) m (t + 1) (ib : Int)) := by
                    rcases HN.out with c | c | ⟨_, c⟩
                    · exact c
                    · exact absurd c q1
                    · exact absurd (HHH.out.2 c) q3
                  clear q1 q2 q3
                  go_wp2
                  go_roundw
                  case rel => exact ⟨t + 1, (ib : Int), by omega, rfl, by go_num, HNX.out, hb6.out⟩
                  case measure => simp [intOf]; omega
              · have b2 : (pt == pa) = false := by rw [beq_eq_false_iff_ne]; exact q2
                have HNX : Hid (BestAt (sysOf T Z n) m (t + 1) (ib : Int)) := by
                  rcases HN.out with c | c | ⟨c, _⟩
                  · exact c
                  · exact absurd c q1
                  · exact absurd c q2
                clear q1 q2
                go_wp2
                go_roundw
                case rel => exact ⟨t + 1, (ib : Int), by omega, rfl, by go_num, HNX.out, hb6.out⟩
                case measure => simp [intOf]; omega
        · have br : decide (m.now < x.rel) = true := decide_eq_true (by omega)
          have hnr : readyB m t = false := by
            unfold readyB
            rw [HQ.out]
            exact decide_eq_false (by rw [← HJ.out.rel]; exact hrd)
          have HNX : Hid (BestAt (sysOf T Z n) m (t + 1) bi) := best_skip HBE.out hnr
          clear hrd hnr
          generalize x.rel = xr at *
          go_wp2_with fail
          go_quiet (fail)
          go_wp2
          go_roundw
          case rel => exact ⟨t + 1, bi, by omega, rfl, by go_num, HNX.out, below_drewM HB3.out _⟩
          case measure => simp [intOf]; omega
    · obtain rfl : n = t := by omega
      have hbc := best_ch HSO.out HO.out HLK.out n (Nat.le_refl _)
      have hLr := HRK.out.below HB.out
      have hTr := HRT.out.below HB.out
      obtain ⟨_, _, y2, y3, y4, y5⟩ := hLr.rc
      have z3 := hLr.row.frozen 3
      have z4 := hLr.row.frozen 4
      have z5 := hLr.row.frozen 5
      have hkr := hLr.row.lt
      have hn0 := HO.out.now0
      have hi0 := HO.out.idle
      have hki : k.idle = m.idle := HRR.out.idle
      have hkn : k.now = m.now := HNW.out
      have hke := HRR.out.kl.1
      rcases tick_cases (sysOf T Z n) m with ⟨hch, htk⟩ | ⟨t0, j, r, ht0, hq, hrel, hch, htk⟩
      · have hb1 : bi = -1 := by
          rcases HBE.out with ⟨_, g⟩ | ⟨a, ja, ra, _, g, _⟩
          · exact g
          · have h1 : bestTo (sysOf T Z n) m n = (chTo (sysOf T Z n) m (sysOf T Z n).n).1 := hbc
            rw [hch, g] at h1
            omega
        subst hb1
        have HEND : Hid (∃ k', RKAt ((wr.setCell ⟨kb, 3, none⟩ (.int .i64 (k.now + 1))).setCell ⟨kb, 4, none⟩ (.int .i64 (k.idle + 1))) B kb tb tc pb pc n T Z k' jv dv ∧ RKT ((wr.setCell ⟨kb, 3, none⟩ (.int .i64 (k.now + 1))).setCell ⟨kb, 4, none⟩ (.int .i64 (k.idle + 1))) tb pb n T k' dv ∧ RR (sysOf T Z n) (tick (sysOf T Z n) m).1 k' ∧ Fr (fun q => q = kb ∨ jv.ownBlock = some q) w ((wr.setCell ⟨kb, 3, none⟩ (.int .i64 (k.now + 1))).setCell ⟨kb, 4, none⟩ (.int .i64 (k.idle + 1)))) := by
          obtain ⟨p1, p2, p3⟩ := hLr.setK hTr (k' := { k with now := k.now + 1 }) 3 (.int .i64 (k.now + 1)) rfl (fun p hp => by
            match p, hp with
            | 0, _ => rfl
            | 1, _ => rfl
            | 2, _ => rfl
            | 3, _ => rfl
            | 4, _ => rfl
            | 5, _ => rfl)
          obtain ⟨r1, r2, r3⟩ := p1.setK p2 (k' := { k with now := k.now + 1, idle := k.idle + 1 }) 4 (.int .i64 (k.idle + 1)) rfl (fun p hp => by
            match p, hp with
            | 0, _ => rfl
            | 1, _ => rfl
            | 2, _ => rfl
            | 3, _ => rfl
            | 4, _ => rfl
            | 5, _ => rfl)
          refine ⟨_, r1, r2, ?_, ((Fr.of_below _ HB.out).then p3).then r3⟩
          rw [htk]
          exact rr_idle HRR.out
        have ht1 : (tick (sysOf T Z n) m).2.1 = -1 := by rw [htk]
        have ht2 : (tick (sysOf T Z n) m).2.2 = false := by rw [htk]
        have HT1 : Hid ((tick (sysOf T Z n) m).2.1 = -1 ∧ (tick (sysOf T Z n) m).2.2 = false) := ⟨ht1, ht2⟩
        clear hLr hTr hbc htk hch ht1 ht2
        have hkr1 : k.now < 1000000000000000000 ∧ 0 ≤ k.now := by omega
        have hkr2 : k.idle < 1000000000000000000 ∧ 0 ≤ k.idle := by omega
        clear hki hkn
        go_wp2
        go_ret2
        refine ⟨?_, HEND.out⟩
        rw [HT1.out.1, HT1.out.2]
        rfl
      · obtain ⟨i, x, hi, hx, hj, hrr, hfl⟩ := rr_tick HO.out HRR.out ht0 hq
        have hbi : bi = (i : Int) := by
          have h1 : bestTo (sysOf T Z n) m n = (chTo (sysOf T Z n) m (sysOf T Z n).n).1 := hbc
          rw [hch] at h1
          rcases HBE.out with ⟨g, _⟩ | ⟨a, ja, ra, _, g, g2, g3⟩
          · omega
          · have e : a = t0 := by omega
            subst e
            rw [hq] at g2
            cases g2
            omega
        subst hbi
        obtain ⟨g, cap, hjv, _, hgl, hcap, hc, hfz⟩ := hLr.job hx
        subst hjv
        have hil := (List.getElem?_eq_some_iff.1 hx).1
        have c0 : wr.cell? ⟨g, i * 7, none⟩ = some (.int .i64 (t0 : Int)) := by have := hc 0 _ rfl; rw [hj.task] at this; exact this
        have c3 : wr.cell? ⟨g, i * 7 + 3, none⟩ = some (.slice (dv i).1 x.dem.length (dv i).2) := hc 3 _ rfl
        have c4 : wr.cell? ⟨g, i * 7 + 4, none⟩ = some (.int .i64 x.used) := hc 4 _ rfl
        have c5 : wr.cell? ⟨g, i * 7 + 5, none⟩ = some (.int .i64 x.done) := hc 5 _ rfl
        have c6 : wr.cell? ⟨g, i * 7 + 6, none⟩ = some (.int .i64 x.ended) := hc 6 _ rfl
        have u4 := hfz (i * 7 + 4)
        have u5 := hfz (i * 7 + 5)
        have u6 := hfz (i * 7 + 6)
        have hkg : kb ≠ g := by
          obtain ⟨_, _, hr⟩ := own_rowE hLr.jobs (b := g) rfl
          exact row_ne hLr.row hr (by decide)
        have hgk := hkg.symm
        obtain ⟨i', x', hd, e1, e2, _, _, _, _, _, e8, e9, e10, e11⟩ := HHD.out t0 j r ht0 hq
        have hii : i' = i := by omega
        subst hii
        rw [hx] at e2
        cases e2
        have bib : decide ((i' : Int) < 0) = false := decide_eq_false (by omega)
        have hkr1 : k.now < 1000000000000000000 ∧ 0 ≤ k.now := by omega
        obtain ⟨p1, p2, p3⟩ := hLr.setK hTr (k' := { k with now := k.now + 1 }) 3 (.int .i64 (k.now + 1)) rfl (fun p hp => by
          match p, hp with
          | 0, _ => rfl
          | 1, _ => rfl
          | 2, _ => rfl
          | 3, _ => rfl
          | 4, _ => rfl
          | 5, _ => rfl)
        obtain ⟨r1, r2, r3⟩ := p1.setJ p2 (x' := { x with used := x.used + 1 }) hx 4 (.int .i64 (x.used + 1)) (by omega) rfl rfl
        have r4 := ((Fr.of_below (fun q => q = kb ∨ (Value.slice (some ⟨g, 0, none⟩) k.jobs.length cap).ownBlock = some q) HB.out).then p3).then r3
        have hx2 : (k.jobs.set i' { x with used := x.used + 1 })[i']? = some { x with used := x.used + 1 } := set_here _ hx
        have HX2 : Hid _ := hx2
        have HRR2 : Hid (RR (sysOf T Z n) (tickAt (sysOf T Z n) m t0 j r).1 (k.tickAt i' x).1) := hrr
        have HFL : Hid ((tickAt (sysOf T Z n) m t0 j r).2 = (k.tickAt i' x).2) := hfl
        have HTSK : Hid (x.task = t0) := hj.task
        have HTK : Hid (tick (sysOf T Z n) m = ((tickAt (sysOf T Z n) m t0 j r).1, (t0 : Int), (tickAt (sysOf T Z n) m t0 j r).2)) := htk
        clear hc hfz hbc hki hkn e1 hLr hTr p1 p2 p3 hrr hfl htk hx hj hq hch
        go_wp2_with fail
        generalize hW2 : ((wr.setCell ⟨kb, 3, none⟩ (.int .i64 (k.now + 1))).setCell ⟨g, i' * 7 + 4, none⟩ (.int .i64 (x.used + 1))) = W2 at *
        have HR1 : Hid (RKAt W2 B kb tb tc pb pc n T Z { k with jobs := k.jobs.set i' { x with used := x.used + 1 }, now := k.now + 1 } (.slice (some ⟨g, 0, none⟩) k.jobs.length cap) dv) := r1
        have HR2 : Hid (RKT W2 tb pb n T { k with jobs := k.jobs.set i' { x with used := x.used + 1 }, now := k.now + 1 } dv) := r2
        have HR4 : Hid (Fr (fun q => q = kb ∨ (Value.slice (some ⟨g, 0, none⟩) k.jobs.length cap).ownBlock = some q) w W2) := r4
        clear r1 r2 r3 r4 hW2 c0 c3 c4 c5 c6 y2 y3 y4 y5 z3 z4 z5 u4 u5 u6 hgl hkr hx2 HB hsz
        obtain ⟨g', cap', hjv', _, hgl, _, hc, _⟩ := HR1.out.job HX2.out
        have hgg : g' = g ∧ cap' = cap := by
          simp only [Value.slice.injEq, Option.some.injEq, Addr.mk.injEq] at hjv'
          exact ⟨hjv'.1.1.symm, hjv'.2.2.symm⟩
        obtain ⟨rfl, rfl⟩ := hgg
        obtain ⟨_, _, y2, _⟩ := HR1.out.rc
        have hkr := HR1.out.row.lt
        have d3 : W2.cell? ⟨g', i' * 7 + 3, none⟩ = some (.slice (dv i').1 x.dem.length (dv i').2) := hc 3 _ rfl
        have d4 : W2.cell? ⟨g', i' * 7 + 4, none⟩ = some (.int .i64 (x.used + 1)) := hc 4 _ rfl
        have HTOT : Hid (∀ w1, Below W2.heap.size W2 w1 → Calls Tryz.prog 105 #[.slice (dv i').1 x.dem.length (dv i').2] w1 fun e w' => e = .returned (.int .i64 (sumL x.dem)) ∧ (w'.cell? ⟨kb, 2, none⟩ = some (.slice (some ⟨g', 0, none⟩) k.jobs.length cap') ∧ w'.cell? ⟨g', i' * 7 + 4, none⟩ = some (.int .i64 (x.used + 1)) ∧ w'.cell? ⟨g', i' * 7 + 3, none⟩ = some (.slice (dv i').1 x.dem.length (dv i').2)) ∧ Hid (Below W2.heap.size W2 w')) := by
          intro w1 hb1
          have hdm : DemAt W2 (dv i').1 x.dem := HR1.out.dems i' { x with used := x.used + 1 } HX2.out
          refine (total_any x.dem (hdm.below hb1) e10 e11).mono ?_
          rintro e w' ⟨he, rfl⟩
          exact ⟨he, ⟨(hb1.cell (p := ⟨kb, 2, none⟩) hkr).trans y2, (hb1.cell (p := ⟨g', i' * 7 + 4, none⟩) hgl).trans d4, (hb1.cell (p := ⟨g', i' * 7 + 3, none⟩) hgl).trans d3⟩, hb1⟩
        clear hc e10 e11 hjv'
        generalize hsd : sumL x.dem = sd at *
        have HSD : Hid (sumL x.dem = sd) := hsd
        clear hsd
        go_region_held (fun w' => w'.cell? ⟨kb, 2, none⟩ = some (.slice (some ⟨g', 0, none⟩) k.jobs.length cap') ∧ w'.cell? ⟨g', i' * 7 + 4, none⟩ = some (.int .i64 (x.used + 1)) ∧ w'.cell? ⟨g', i' * 7 + 3, none⟩ = some (.slice (dv i').1 x.dem.length (dv i').2)) (first | go_keep | exact hcells) (first | (go_at_call 105; refine (HTOT.out _ (below_drewM (Below.refl _ _) _)).mono ?_; rintro e w6 ⟨rfl, hcells, hb6⟩))
        clear hcells HTOT d3 d4 y2 hkr hgl
        have h6 := HR1.out.below hb6.out
        have h6t := HR2.out.below hb6.out
        obtain ⟨g2, cap2, hjv2, _, hgl, _, hc, hfz⟩ := h6.job HX2.out
        have hgg : g2 = g' := by
          simp only [Value.slice.injEq, Option.some.injEq, Addr.mk.injEq] at hjv2
          exact hjv2.1.1.symm
        subst hgg
        obtain ⟨_, _, y2, y3, _, y5⟩ := h6.rc
        have z5 := h6.row.frozen 5
        have hkr := h6.row.lt
        have c0 : w6.cell? ⟨g2, i' * 7, none⟩ = some (.int .i64 (x.task : Int)) := hc 0 _ rfl
        have c5 : w6.cell? ⟨g2, i' * 7 + 5, none⟩ = some (.int .i64 x.done) := hc 5 _ rfl
        have c6 : w6.cell? ⟨g2, i' * 7 + 6, none⟩ = some (.int .i64 x.ended) := hc 6 _ rfl
        have u5 := hfz (i' * 7 + 5)
        have u6 := hfz (i' * 7 + 6)
        clear hc hfz hjv2
        by_cases hdn : x.used + 1 = sd
        · have bd : (x.used + 1 == sd) = true := by rw [beq_iff_eq]; exact hdn
          have hkt : k.tickAt i' x = ({ k with jobs := k.jobs.set i' { x with used := x.used + 1, done := k.now + 1, ended := k.ended + 1 }, now := k.now + 1, ended := k.ended + 1 }, true) := by
            unfold RK.tickAt
            rw [if_pos (by rw [HSD.out]; exact hdn)]
          have HVAL : Hid ((tick (sysOf T Z n) m).2.1 = (t0 : Int) ∧ (tick (sysOf T Z n) m).2.2 = true) := by
            rw [HTK.out]
            refine ⟨rfl, ?_⟩
            show (tickAt (sysOf T Z n) m t0 j r).2 = true
            rw [HFL.out, hkt]
          have HEND : Hid (∃ k', RKAt (((w6.setCell ⟨kb, 5, none⟩ (.int .i64 (k.ended + 1))).setCell ⟨g2, i' * 7 + 5, none⟩ (.int .i64 (k.now + 1))).setCell ⟨g2, i' * 7 + 6, none⟩ (.int .i64 (k.ended + 1))).drew.drew B kb tb tc pb pc n T Z k' (.slice (some ⟨g2, 0, none⟩) k.jobs.length cap') dv ∧ RKT (((w6.setCell ⟨kb, 5, none⟩ (.int .i64 (k.ended + 1))).setCell ⟨g2, i' * 7 + 5, none⟩ (.int .i64 (k.now + 1))).setCell ⟨g2, i' * 7 + 6, none⟩ (.int .i64 (k.ended + 1))).drew.drew tb pb n T k' dv ∧ RR (sysOf T Z n) (tick (sysOf T Z n) m).1 k' ∧ Fr (fun q => q = kb ∨ (Value.slice (some ⟨g2, 0, none⟩) k.jobs.length cap').ownBlock = some q) w (((w6.setCell ⟨kb, 5, none⟩ (.int .i64 (k.ended + 1))).setCell ⟨g2, i' * 7 + 5, none⟩ (.int .i64 (k.now + 1))).setCell ⟨g2, i' * 7 + 6, none⟩ (.int .i64 (k.ended + 1))).drew.drew) := by
            obtain ⟨a1, a2, a3⟩ := h6.setK h6t (k' := { k with jobs := k.jobs.set i' { x with used := x.used + 1 }, now := k.now + 1, ended := k.ended + 1 }) 5 (.int .i64 (k.ended + 1)) rfl (fun p hp => by
              match p, hp with
              | 0, _ => rfl
              | 1, _ => rfl
              | 2, _ => rfl
              | 3, _ => rfl
              | 4, _ => rfl
              | 5, _ => rfl)
            obtain ⟨b1, b2, b3⟩ := RKAt.setJ' (by rw [List.length_set]) a1 a2 (x' := { x with used := x.used + 1, done := k.now + 1 }) HX2.out 5 (.int .i64 (k.now + 1)) (by omega) rfl rfl
            have hx3 : ((k.jobs.set i' { x with used := x.used + 1 }).set i' { x with used := x.used + 1, done := k.now + 1 })[i']? = some { x with used := x.used + 1, done := k.now + 1 } := set_here _ HX2.out
            obtain ⟨d1, d2, d3⟩ := RKAt.setJ' (by show _ = ((k.jobs.set i' _).set i' _).length; rw [List.length_set, List.length_set]) b1 b2 (x' := { x with used := x.used + 1, done := k.now + 1, ended := k.ended + 1 }) hx3 6 (.int .i64 (k.ended + 1)) (by omega) rfl rfl
            have f1 := d1.below (bel_drew _)
            have f2 := f1.below (bel_drew _)
            have g1 := d2.below (bel_drew _)
            have g3 := g1.below (bel_drew _)
            refine ⟨_, f2, g3, ?_, (((((HR4.out.then (Fr.of_below _ hb6.out)).then a3).then b3).then d3).drew).drew⟩
            have hh := HRR2.out
            rw [hkt] at hh
            rw [HTK.out]
            have es : (((k.jobs.set i' { x with used := x.used + 1 }).set i' { x with used := x.used + 1, done := k.now + 1 }).set i' { x with used := x.used + 1, done := k.now + 1, ended := k.ended + 1 }) = k.jobs.set i' { x with used := x.used + 1, done := k.now + 1, ended := k.ended + 1 } := by rw [List.set_set, List.set_set]
            show RR (sysOf T Z n) (tickAt (sysOf T Z n) m t0 j r).1 { k with jobs := (((k.jobs.set i' { x with used := x.used + 1 }).set i' { x with used := x.used + 1, done := k.now + 1 }).set i' { x with used := x.used + 1, done := k.now + 1, ended := k.ended + 1 }), now := k.now + 1, ended := k.ended + 1 }
            rw [es]
            exact hh
          clear h6 h6t hkt hdn
          go_wp2_with fail
          go_region
          all_goals
            go_wp2_with fail
            go_region
            all_goals
              go_wp2
              go_ret2
              refine ⟨?_, HEND.out⟩
              rw [HVAL.out.1, HVAL.out.2, ← HTSK.out]
              rfl
        · have bd : (x.used + 1 == sd) = false := by rw [beq_eq_false_iff_ne]; exact hdn
          have hkt : k.tickAt i' x = ({ k with jobs := k.jobs.set i' { x with used := x.used + 1 }, now := k.now + 1 }, false) := by
            unfold RK.tickAt
            rw [if_neg (by rw [HSD.out]; exact hdn)]
          have HEND : Hid (∃ k', RKAt w6 B kb tb tc pb pc n T Z k' (.slice (some ⟨g2, 0, none⟩) k.jobs.length cap') dv ∧ RKT w6 tb pb n T k' dv ∧ RR (sysOf T Z n) (tick (sysOf T Z n) m).1 k' ∧ Fr (fun q => q = kb ∨ (Value.slice (some ⟨g2, 0, none⟩) k.jobs.length cap').ownBlock = some q) w w6) := by
            refine ⟨_, h6, h6t, ?_, HR4.out.then (Fr.of_below _ hb6.out)⟩
            have := HRR2.out
            rw [hkt] at this
            rw [HTK.out]
            exact this
          have HVAL : Hid ((tick (sysOf T Z n) m).2.1 = (t0 : Int) ∧ (tick (sysOf T Z n) m).2.2 = false) := by
            rw [HTK.out]
            refine ⟨rfl, ?_⟩
            show (tickAt (sysOf T Z n) m t0 j r).2 = false
            rw [HFL.out, hkt]
          clear h6 h6t hkt hdn
          go_wp2
          go_ret2
          refine ⟨?_, HEND.out⟩
          rw [HVAL.out.1, HVAL.out.2, ← HTSK.out]
          rfl

end Go.Proofs.YtdabcflpcklfiaaGreat
