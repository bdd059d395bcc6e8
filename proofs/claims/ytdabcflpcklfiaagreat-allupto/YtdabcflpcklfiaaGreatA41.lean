import Derived.Test.YtdabcflpcklfiaaGreatA40
import Derived.Deep.RegionHeldLaw
/- The document's kernel, walked: a job arrives, or is refused. -/
namespace Go.Proofs.YtdabcflpcklfiaaGreat
open Go.RowKit Cad

theorem arrive_out {S : Sy} {m : Mc} {x jit : Int} {D : Nat → Int} {d : Nat} (h : x < 0 ∨ (S.n : Int) ≤ x) : arrive S m x jit D d = (m, 5) := if_pos h

theorem arrive_no {S : Sy} {m : Mc} {t : Nat} {jit c : Int} {D : Nat → Int} {d : Nat} (ht : t < S.n) (hr : refuse S m t jit D d = c) (hc : c ≠ 0) : arrive S m (t : Int) jit D d = (m, c) := by
  unfold arrive
  rw [if_neg (by omega), if_pos (by rw [Int.toNat_natCast, hr]; exact hc), Int.toNat_natCast, hr]

theorem arrive_yes {S : Sy} {m : Mc} {t : Nat} {jit : Int} {D : Nat → Int} {d : Nat} (ht : t < S.n) (hr : refuse S m t jit D d = 0) : arrive S m (t : Int) jit D d = (added S m t jit D, 0) := by
  unfold arrive
  rw [if_neg (by omega), if_neg (by rw [Int.toNat_natCast, hr]; simp), Int.toNat_natCast]

theorem cells7_new (w : World) (a b c d e f g : Value) (t : Nat) : ∀ (j : Nat) (u : Value), [a, b, c, d, e, f, g][j]? = some u → (w.alloc (.cells #[a, b, c, d, e, f, g] t)).cell? ((⟨w.heap.size, 0, none⟩ : Addr).add j) = some u := by
  intro j u hu
  rw [Addr.add_lit, Nat.zero_add]
  have := World.cell?_alloc_at (w := w) #[a, b, c, d, e, f, g] t w.heap.size j rfl
  rw [this]
  simpa using hu

theorem Tryz.info148 : (Tryz.prog.info? 148).map (fun i => (i.zero, i.size, i.bytes)) = some (some (.agg #[.int .i64 0, .int .i64 0, .int .i64 0, .slice none 0 0, .int .i64 0, .int .i64 0, .int .i64 0]), 7, 72) := by kernel_rfl

theorem fits_pos {K N D : Nat → Int} {L d : Nat} (hf : Fits K N L D d) (h1 : 1 ≤ L) (hl : K (L - 1) = 1) : 1 ≤ d ∧ d ≤ L := by
  have hc : cmpTo K L = d := hf.2
  have hle := cmpTo_le K L
  obtain ⟨l, rfl⟩ : ∃ l, L = l + 1 := ⟨L - 1, by omega⟩
  have e : cmpTo K (l + 1) = cmpTo K l + 1 := if_pos hl
  omega

theorem dem_cells {w : World} {rb rf : Nat} {dem : List Int} (h : IntsAt w rb rf dem.length (fun q => dem.getD q 0)) : ∀ j u, (dem.map (Value.int .i64))[j]? = some u → w.cell? ((⟨rb, rf, none⟩ : Addr).add j) = some u := by
  intro j u hu
  rw [Addr.add_lit]
  rw [List.getElem?_map] at hu
  cases hx : dem[j]? with
  | none => rw [hx] at hu; cases hu
  | some x =>
    rw [hx] at hu
    cases hu
    refine (h j (List.getElem?_eq_some_iff.1 hx).1).trans ?_
    show some (Value.int .i64 (dem.getD j 0)) = _
    rw [List.getD_eq_getElem?_getD, hx]
    rfl

theorem own_dem {w : World} {base g c : Nat} {dem : List Int} (h : w.ownsRow base 3 1 (.slice (some ⟨g, 0, none⟩) dem.length c) dem.length (dem.map (Value.int .i64))) : DemAt w (some ⟨g, 0, none⟩) dem := fun _ => by
  refine ⟨g, 0, rfl, (h.lt g rfl).2, fun i hi => ?_⟩
  have := h.cells (g := g) rfl i (.int .i64 (dem.getD i 0)) (by rw [List.getElem?_map, List.getElem?_eq_getElem hi, List.getD_eq_getElem?_getD, List.getElem?_eq_getElem hi]; rfl)
  rw [Addr.add_lit] at this
  exact this

/-- What the kernel is behind a call that may have added a job. -/
structure RAft (w w' : World) (B kb tb tc pb pc n : Nat) (T : TD) (Z : Nat → Int) (m' : Mc) (k : RK) (jv : Value) (dv : Nat → Option Addr × Nat) (k' : RK) (jv' : Value) (dv' : Nat → Option Addr × Nat) : Prop where
  mem : RKAt w' B kb tb tc pb pc n T Z k' jv' dv'
  kinds : RKT w' tb pb n T k' dv'
  rr : RR (sysOf T Z n) m' k'
  fr : Fr (fun q => q = kb ∨ jv.ownBlock = some q) w w'
  fj : ∀ b, jv'.ownBlock = some b → jv.ownBlock = some b ∨ w.heap.size ≤ b
  fd : ∀ (i : Nat) (x : RJ), k'.jobs[i]? = some x → ∀ a, (dv' i).1 = some a → (∃ y, k.jobs[i]? = some y ∧ (dv i).1 = some a) ∨ w.heap.size ≤ a.block

theorem RAft.none {w w' : World} {B kb tb tc pb pc n : Nat} {T : TD} {Z : Nat → Int} {m : Mc} {k : RK} {jv : Value} {dv : Nat → Option Addr × Nat} (h : RKAt w B kb tb tc pb pc n T Z k jv dv) (hT : RKT w tb pb n T k dv) (hR : RR (sysOf T Z n) m k) (hb : Below w.heap.size w w') : RAft w w' B kb tb tc pb pc n T Z m k jv dv k jv dv :=
  ⟨h.below hb, hT.below hb, hR, Fr.of_below _ hb, fun _ hb => .inl hb, fun _ x hx _ ha => .inl ⟨x, hx, ha⟩⟩

set_option maxRecDepth 100000 in
set_option maxHeartbeats 8000000 in
theorem rarrive_any {w : World} {B kb tb tc pb pc n : Nat} {T : TD} {Z : Nat → Int} {m : Mc} {k : RK} {jv : Value} {dv : Nat → Option Addr × Nat} (h : RKAt w B kb tb tc pb pc n T Z k jv dv) (hT : RKT w tb pb n T k dv) (hR : RR (sysOf T Z n) m k) (ho : Ok (sysOf T Z n) m) (hG : Good T n) (hB : B ≤ w.heap.size)
    (hnow : m.now < 1000000000000000000) (hlen : k.jobs.length ≤ 1000000000000) {x jit : Int} {ao : Option Addr} {dc : Nat} (dem : List Int) (hd : DemAt w ao dem) (hdl : dem.length ≤ 9223372036854775806) :
    Calls Tryz.prog 46 #[.pointer (some ⟨kb, 0, none⟩), .int .i64 x, .int .i64 jit, .slice ao dem.length dc] w fun e w' => e = .returned (.int .i64 (arrive (sysOf T Z n) m x jit (fun q => dem.getD q 0) dem.length).2) ∧
      ∃ k' jv' dv', RAft w w' B kb tb tc pb pc n T Z (arrive (sysOf T Z n) m x jit (fun q => dem.getD q 0) dem.length).1 k jv dv k' jv' dv' := by
  obtain ⟨i3, hi3, hz30, hz31, hz32⟩ := info_parts Tryz.info3
  obtain ⟨i14, hi14, hz140, hz141, hz142⟩ := info_parts Tryz.info148
  obtain ⟨y0, _, y2, y3, _, _⟩ := h.rc
  have hkl := h.row.lt
  have hn8 := hG.eight
  have HRK : Hid (RKAt w B kb tb tc pb pc n T Z k jv dv) := h
  have HRT : Hid (RKT w tb pb n T k dv) := hT
  have HRR : Hid (RR (sysOf T Z n) m k) := hR
  have HO : Hid (Ok (sysOf T Z n) m) := ho
  have HG : Hid (Good T n) := hG
  have HD : Hid (DemAt w ao dem) := hd
  by_cases h0 : x < 0
  · have b1 : decide (x < 0) = true := decide_eq_true h0
    have HE : Hid (arrive (sysOf T Z n) m x jit (fun q => dem.getD q 0) dem.length = (m, 5)) := arrive_out (.inl h0)
    clear h hT hR ho hG hd h0
    go_enter Tryz.func46, Tryz.ntmps46
    go_wp2
    go_ret
    rw [HE.out]
    exact ⟨rfl, k, jv, dv, RAft.none HRK.out HRT.out HRR.out (Below.refl _ _)⟩
  · have b1 : decide (x < 0) = false := decide_eq_false h0
    by_cases h1 : (n : Int) ≤ x
    · have b2 : decide ((n : Int) ≤ x) = true := decide_eq_true h1
      have HE : Hid (arrive (sysOf T Z n) m x jit (fun q => dem.getD q 0) dem.length = (m, 5)) := arrive_out (.inr h1)
      clear h hT hR ho hG hd h0 h1
      go_enter Tryz.func46, Tryz.ntmps46
      go_wp2
      go_ret
      rw [HE.out]
      exact ⟨rfl, k, jv, dv, RAft.none HRK.out HRT.out HRR.out (Below.refl _ _)⟩
    · obtain ⟨t, rfl⟩ : ∃ t : Nat, x = (t : Int) := ⟨x.toNat, by omega⟩
      have htn : t < n := by omega
      have b2 : decide (n ≤ t) = false := decide_eq_false (by omega)
      obtain ⟨t0, t1, t2, t3, t4⟩ := h.tasks t htn
      have htb := h.tlt
      have hper := hG.times t htn
      have hL16 : T.L t ≤ 16 := (ho.len t htn).2
      have hL1 : 1 ≤ T.L t := (ho.len t htn).1
      obtain ⟨sb, so, hsa, hsl, hst⟩ := t4.2 hL1
      have hst' : T.A t = some ⟨sb, so, none⟩ := hsa
      rw [hst'] at t3
      rw [Nat.zero_add] at t0 t1 t2 t3
      -- the box
      obtain ⟨W1, hW1⟩ : ∃ W1, W1 = (w.alloc (.cells #[.int .i64 (T.P t), .int .i64 (T.D t), .int .i64 (T.J t), .slice (some ⟨sb, so, none⟩) (T.L t) (T.C t)] 77)) := ⟨_, rfl⟩
      have hbx := box4 w (.int .i64 (T.P t)) (.int .i64 (T.D t)) (.int .i64 (T.J t)) (.slice (some ⟨sb, so, none⟩) (T.L t) (T.C t)) 77
      rw [← hW1] at hbx
      have hb1 : Below w.heap.size w W1 := by rw [hW1]; exact below_alloc1 _ _
      have HW1 : Hid (W1 = (w.alloc (.cells #[.int .i64 (T.P t), .int .i64 (T.D t), .int .i64 (T.J t), .slice (some ⟨sb, so, none⟩) (T.L t) (T.C t)] 77))) := hW1
      have x0 : W1.cell? ⟨w.heap.size, 0, none⟩ = some (.int .i64 (T.P t)) := hbx.cell (by omega)
      have x2 : W1.cell? ⟨w.heap.size, 2, none⟩ = some (.int .i64 (T.J t)) := hbx.cell (by omega)
      have x3 : W1.cell? ⟨w.heap.size, 3, none⟩ = some (.slice (some ⟨sb, so, none⟩) (T.L t) (T.C t)) := hbx.cell (by omega)
      have hbl := hbx.lt
      have HBW : Hid (Below w.heap.size w W1) := hb1
      have h1k := h.below hb1
      have h1t := hT.below hb1
      have HRK1 : Hid (RKAt W1 B kb tb tc pb pc n T Z k jv dv) := h1k
      have HRT1 : Hid (RKT W1 tb pb n T k dv) := h1t
      have HD1 : Hid (DemAt W1 ao dem) := hd.below hb1
      have HST1 : Hid (StepsAt W1 sb so (T.L t) (T.K t) (T.N t)) := hst.below hsl hb1
      have hsl1 : sb < W1.heap.size := Nat.lt_of_lt_of_le hsl hb1.size
      have hBW : B ≤ W1.heap.size := Nat.le_trans hB hb1.size
      have hsz1 : w.heap.size ≤ W1.heap.size := hb1.size
      -- the numbers
      have HLAST : Hid (lastTo k.jobs t = if 0 < m.done t + (m.q t).length then m.last t else -1) := hR.last t htn
      have HCNT : Hid (cntO t k.jobs = (m.q t).length) := hR.cnt t htn
      have hln := ho.lastn t htn
      have hnw := hR.now
      have hn0 := ho.now0
      have HARR : Hid (∀ (i : Nat) (y : RJ), k.jobs[i]? = some y → 0 ≤ y.arr) := hR.arr0
      clear h hT hR ho hG hd h0 h1 t4 hst hsa hW1 hbx hb1 h1k h1t
      go_enter Tryz.func46, Tryz.ntmps46
      go_wp2_with fail
      rw [← HW1.out]
      generalize hbxe : w.heap.size = bx at *
      have HBXE : Hid (w.heap.size = bx) := hbxe
      obtain ⟨_, _, k2, k3, _, _⟩ := HRK1.out.rc
      have hkl1 := HRK1.out.row.lt
      clear t0 t1 t2 t3 HW1 hbxe y0 y2 y3
      go_loopw [10, 11, 12] (fun lv ov iv wr => ∃ i : Nat, i ≤ k.jobs.length ∧ lv = .int .i64 (lastTo (k.jobs.take i) t) ∧ ov = .int .i64 (cntO t (k.jobs.take i)) ∧ iv = .int .i64 i ∧ W1 = wr) (fun _ _ iv _ => k.jobs.length - (intOf iv).toNat)
      case atStart => exact ⟨0, Nat.zero_le _, rfl, rfl, rfl, rfl⟩
      case round =>
        obtain ⟨i, hi, rfl, rfl, rfl, rfl⟩ := hrel
        have hcr := cntO_ge t (k.jobs.take i)
        have htl : (k.jobs.take i).length ≤ i := by rw [List.length_take]; omega
        by_cases hil : i < k.jobs.length
        · obtain ⟨y, hy⟩ : ∃ y, k.jobs[i]? = some y := ⟨_, List.getElem?_eq_getElem hil⟩
          obtain ⟨g, cap, hjv, _, hgl, hcap, hc, _⟩ := HRK1.out.job hy
          have c0 : W1.cell? ⟨g, i * 7, none⟩ = some (.int .i64 (y.task : Int)) := hc 0 _ rfl
          have c1 : W1.cell? ⟨g, i * 7 + 1, none⟩ = some (.int .i64 y.arr) := hc 1 _ rfl
          have c5 : W1.cell? ⟨g, i * 7 + 5, none⟩ = some (.int .i64 y.done) := hc 5 _ rfl
          have E1 := last_step t hy (HARR.out i y hy)
          have E2 := cnt_step t hy
          rw [hjv] at k2
          clear hc hjv
          by_cases htk : y.task = t
          · rw [if_pos htk] at E1
            have b1 : ((y.task : Int) == (t : Int)) = true := by rw [beq_iff_eq]; omega
            by_cases hdn : y.done < 0
            · rw [if_pos ⟨htk, hdn⟩] at E2
              have b3 : decide (y.done < 0) = true := decide_eq_true hdn
              have HE1 : Hid (lastTo (k.jobs.take (i + 1)) t = y.arr) := E1
              have HE2 : Hid (cntO t (k.jobs.take (i + 1)) = cntO t (k.jobs.take i) + 1) := E2
              clear E1 E2 htk hdn
              generalize cntO t (k.jobs.take i) = cn at *
              generalize lastTo (k.jobs.take i) t = ln at *
              generalize y.task = yt at *
              generalize y.done = yd at *
              go_wp2
              go_roundw
              case rel => exact ⟨i + 1, by omega, by rw [HE1.out], by rw [HE2.out], by go_num, by trivial⟩
              case measure => simp [intOf]; omega
            · rw [if_neg (fun c => hdn c.2)] at E2
              have b3 : decide (y.done < 0) = false := decide_eq_false hdn
              have HE1 : Hid (lastTo (k.jobs.take (i + 1)) t = y.arr) := E1
              have HE2 : Hid (cntO t (k.jobs.take (i + 1)) = cntO t (k.jobs.take i) + 0) := E2
              clear E1 E2 htk hdn
              generalize cntO t (k.jobs.take i) = cn at *
              generalize lastTo (k.jobs.take i) t = ln at *
              generalize y.task = yt at *
              generalize y.done = yd at *
              go_wp2
              go_roundw
              case rel => exact ⟨i + 1, by omega, by rw [HE1.out], by rw [HE2.out, Int.add_zero], by go_num, by trivial⟩
              case measure => simp [intOf]; omega
          · rw [if_neg htk] at E1
            rw [if_neg (fun c => htk c.1)] at E2
            have b1 : ((y.task : Int) == (t : Int)) = false := by rw [beq_eq_false_iff_ne]; omega
            have HE1 : Hid (lastTo (k.jobs.take (i + 1)) t = lastTo (k.jobs.take i) t) := E1
            have HE2 : Hid (cntO t (k.jobs.take (i + 1)) = cntO t (k.jobs.take i) + 0) := E2
            clear E1 E2 htk
            generalize cntO t (k.jobs.take i) = cn at *
            generalize lastTo (k.jobs.take i) t = ln at *
            generalize y.task = yt at *
            go_wp2
            go_roundw
            case rel => exact ⟨i + 1, by omega, by rw [HE1.out], by rw [HE2.out, Int.add_zero], by go_num, by trivial⟩
            case measure => simp [intOf]; omega
        · obtain rfl : i = k.jobs.length := by omega
          rw [List.take_length]
          clear hcr htl
          have hop := cntO_ge t k.jobs
          obtain ⟨la, hla⟩ : ∃ la, la = lastTo k.jobs t := ⟨_, rfl⟩
          obtain ⟨op, hop'⟩ : ∃ op, op = cntO t k.jobs := ⟨_, rfl⟩
          have hlaE : la = if 0 < m.done t + (m.q t).length then m.last t else -1 := hla.trans HLAST.out
          have hopE : op = (m.q t).length := hop'.trans HCNT.out
          have hlr : -1 ≤ la ∧ la ≤ 1000000000000000000 := by
            rw [hlaE]
            split <;> omega
          have hor : 0 ≤ op ∧ op ≤ 1000000000000 := by rw [hop']; omega
          have HREF : Hid (∀ fb, fb = fitsB (T.K t) (T.N t) (T.L t) (fun q => dem.getD q 0) dem.length → refuse (sysOf T Z n) m t jit (fun q => dem.getD q 0) dem.length = if 0 ≤ la ∧ k.now < la + T.P t then 6 else if jit < 0 ∨ T.J t < jit then 7 else if fb = false then 8 else if 8 ≤ op then 9 else 0) := by
            intro fb hfb
            unfold refuse
            have e1 : (0 < m.done t + (m.q t).length ∧ m.now - m.last t < (sysOf T Z n).P t) ↔ (0 ≤ la ∧ k.now < la + T.P t) := by
              show (0 < m.done t + (m.q t).length ∧ m.now - m.last t < T.P t) ↔ _
              by_cases c : 0 < m.done t + (m.q t).length
              · rw [if_pos c] at hlaE
                constructor
                · intro g; omega
                · intro g; exact ⟨c, by omega⟩
              · rw [if_neg c] at hlaE
                constructor
                · intro g; exact absurd g.1 c
                · intro g; omega
            have e2 : (8 ≤ (m.q t).length) ↔ (8 ≤ op) := by omega
            rw [hfb]
            simp only [e1, e2]
            rfl
          rw [← hla, ← hop']
          have hk2' : ∃ jo jc, jv = .slice jo k.jobs.length jc := by
            obtain ⟨jo, jc, e, _⟩ := HRK1.out.shape
            exact ⟨jo, jc, e⟩
          obtain ⟨jo, jc, hjs⟩ := hk2'
          rw [hjs] at k2
          have HJS : Hid (jv = .slice jo k.jobs.length jc) := hjs
          clear hla hop' hlaE hopE hop hjs hil hi
          have hne : decide (k.jobs.length < k.jobs.length) = false := decide_eq_false (by omega)
          go_wp2_with fail
          refine (rfits_any hL16 hsl1 HST1.out hdl HD1.out).mono ?_
          rintro e w2 ⟨rfl, hb2⟩
          have HF := HREF.out _ rfl
          obtain ⟨fb, hfb⟩ : ∃ fb, fb = fitsB (T.K t) (T.N t) (T.L t) (fun q => dem.getD q 0) dem.length := ⟨_, rfl⟩
          rw [← hfb] at HF ⊢
          have HFB : Hid (fb = fitsB (T.K t) (T.N t) (T.L t) (fun q => dem.getD q 0) dem.length) := hfb
          have z0 : w2.cell? ⟨bx, 0, none⟩ = some (.int .i64 (T.P t)) := (hb2.cell (p := ⟨bx, 0, none⟩) hbl).trans x0
          have z2 : w2.cell? ⟨bx, 2, none⟩ = some (.int .i64 (T.J t)) := (hb2.cell (p := ⟨bx, 2, none⟩) hbl).trans x2
          have z3 : w2.cell? ⟨kb, 3, none⟩ = some (.int .i64 k.now) := (hb2.cell (p := ⟨kb, 3, none⟩) hkl1).trans k3
          have hz2 := hb2.size
          have hbl2 : bx < w2.heap.size := by omega
          have hkl2 : kb < w2.heap.size := by omega
          have HB2 : Hid (Below w.heap.size w w2) := by
            unfold Hid
            rw [HBXE.out]
            exact HBW.out.trans (hb2.mono hsz1)
          have HBB : Hid (Below W1.heap.size W1 w2) := hb2
          clear hfb hb2 HREF x0 x2 x3 k2 k3
          generalize T.P t = tp at *
          generalize T.J t = tj at *
          generalize hkn : k.now = kn at *
          have HKE : Hid (k.now = kn) := hkn
          clear hkn
          have HKN : Hid (kn = m.now) := hnw
          clear hnw
          have hkr : 0 ≤ kn ∧ kn < 1000000000000000000 := by have := HKN.out; omega
          by_cases g1 : 0 ≤ la ∧ kn < la + tp
          · rw [if_pos g1] at HF
            have HE : Hid (arrive (sysOf T Z n) m (t : Int) jit (fun q => dem.getD q 0) dem.length = (m, 6)) := arrive_no htn HF (by decide)
            have b1 : decide (0 ≤ la) = true := decide_eq_true g1.1
            have b2 : decide (kn < la + tp) = true := decide_eq_true g1.2
            clear g1 HF
            go_wp2_with fail
            go_quiet (fail)
            go_wp2
            go_ret
            rw [HE.out]
            exact ⟨rfl, k, jv, dv, RAft.none HRK.out HRT.out HRR.out (by first | exact below_drewM HB2.out _ | exact below_drewM (below_drewM HB2.out _) _)⟩
          · rw [if_neg g1] at HF
            by_cases g2 : jit < 0 ∨ tj < jit
            · rw [if_pos g2] at HF
              have HE : Hid (arrive (sysOf T Z n) m (t : Int) jit (fun q => dem.getD q 0) dem.length = (m, 7)) := arrive_no htn HF (by decide)
              have b1 : decide (0 ≤ la) = true → decide (kn < la + tp) = false := fun h => decide_eq_false (fun c => g1 ⟨of_decide_eq_true h, c⟩)
              clear HF
              by_cases p1 : 0 ≤ la
              · have q1 : decide (0 ≤ la) = true := decide_eq_true p1
                have q2 := b1 q1
                by_cases p2 : jit < 0
                · have q3 : decide (jit < 0) = true := decide_eq_true p2
                  clear g1 g2 b1 p1 p2
                  go_wp2_with fail
                  go_quiet (fail)
                  go_wp2
                  go_ret
                  rw [HE.out]
                  exact ⟨rfl, k, jv, dv, RAft.none HRK.out HRT.out HRR.out (by first | exact below_drewM HB2.out _ | exact below_drewM (below_drewM HB2.out _) _)⟩
                · have q3 : decide (jit < 0) = false := decide_eq_false p2
                  have q4 : decide (tj < jit) = true := decide_eq_true (by omega)
                  clear g1 g2 b1 p1 p2
                  go_wp2_with fail
                  go_quiet (fail)
                  go_wp2
                  go_ret
                  rw [HE.out]
                  exact ⟨rfl, k, jv, dv, RAft.none HRK.out HRT.out HRR.out (by first | exact below_drewM HB2.out _ | exact below_drewM (below_drewM HB2.out _) _)⟩
              · have q1 : decide (0 ≤ la) = false := decide_eq_false p1
                by_cases p2 : jit < 0
                · have q3 : decide (jit < 0) = true := decide_eq_true p2
                  clear g1 g2 b1 p1 p2
                  go_wp2_with fail
                  go_quiet (fail)
                  go_wp2
                  go_ret
                  rw [HE.out]
                  exact ⟨rfl, k, jv, dv, RAft.none HRK.out HRT.out HRR.out (by first | exact below_drewM HB2.out _ | exact below_drewM (below_drewM HB2.out _) _)⟩
                · have q3 : decide (jit < 0) = false := decide_eq_false p2
                  have q4 : decide (tj < jit) = true := decide_eq_true (by omega)
                  clear g1 g2 b1 p1 p2
                  go_wp2_with fail
                  go_quiet (fail)
                  go_wp2
                  go_ret
                  rw [HE.out]
                  exact ⟨rfl, k, jv, dv, RAft.none HRK.out HRT.out HRR.out (by first | exact below_drewM HB2.out _ | exact below_drewM (below_drewM HB2.out _) _)⟩
            · rw [if_neg g2] at HF
              have q3 : decide (jit < 0) = false := decide_eq_false (by omega)
              have q4 : decide (tj < jit) = false := decide_eq_false (by omega)
              have hjr : 0 ≤ jit ∧ jit ≤ tj := by omega
              have b1 : decide (0 ≤ la) = true → decide (kn < la + tp) = false := fun h => decide_eq_false (fun c => g1 ⟨of_decide_eq_true h, c⟩)
              clear g1 g2
              by_cases g3 : fb = false
              · rw [if_pos g3] at HF
                have HE : Hid (arrive (sysOf T Z n) m (t : Int) jit (fun q => dem.getD q 0) dem.length = (m, 8)) := arrive_no htn HF (by decide)
                subst g3
                clear HF
                by_cases p1 : 0 ≤ la
                · have q1 : decide (0 ≤ la) = true := decide_eq_true p1
                  have q2 := b1 q1
                  clear b1 p1
                  go_wp2_with fail
                  go_quiet (fail)
                  go_wp2
                  go_ret
                  rw [HE.out]
                  exact ⟨rfl, k, jv, dv, RAft.none HRK.out HRT.out HRR.out (by first | exact below_drewM HB2.out _ | exact below_drewM (below_drewM HB2.out _) _)⟩
                · have q1 : decide (0 ≤ la) = false := decide_eq_false p1
                  clear b1 p1
                  go_wp2_with fail
                  go_quiet (fail)
                  go_wp2
                  go_ret
                  rw [HE.out]
                  exact ⟨rfl, k, jv, dv, RAft.none HRK.out HRT.out HRR.out (by first | exact below_drewM HB2.out _ | exact below_drewM (below_drewM HB2.out _) _)⟩
              · rw [if_neg g3] at HF
                have g3' : fb = true := by simpa using g3
                subst g3'
                by_cases g4 : 8 ≤ op
                · rw [if_pos g4] at HF
                  have HE : Hid (arrive (sysOf T Z n) m (t : Int) jit (fun q => dem.getD q 0) dem.length = (m, 9)) := arrive_no htn HF (by decide)
                  have q5 : decide (8 ≤ op) = true := decide_eq_true g4
                  clear HF g3 g4
                  by_cases p1 : 0 ≤ la
                  · have q1 : decide (0 ≤ la) = true := decide_eq_true p1
                    have q2 := b1 q1
                    clear b1 p1
                    go_wp2_with fail
                    go_quiet (fail)
                    go_wp2
                    go_ret
                    rw [HE.out]
                    exact ⟨rfl, k, jv, dv, RAft.none HRK.out HRT.out HRR.out (by first | exact below_drewM HB2.out _ | exact below_drewM (below_drewM HB2.out _) _)⟩
                  · have q1 : decide (0 ≤ la) = false := decide_eq_false p1
                    clear b1 p1
                    go_wp2_with fail
                    go_quiet (fail)
                    go_wp2
                    go_ret
                    rw [HE.out]
                    exact ⟨rfl, k, jv, dv, RAft.none HRK.out HRT.out HRR.out (by first | exact below_drewM HB2.out _ | exact below_drewM (below_drewM HB2.out _) _)⟩
                · rw [if_neg g4] at HF
                  have HE : Hid (arrive (sysOf T Z n) m (t : Int) jit (fun q => dem.getD q 0) dem.length = (added (sysOf T Z n) m t jit (fun q => dem.getD q 0), 0)) := arrive_yes htn HF
                  have q5 : decide (8 ≤ op) = false := decide_eq_false g4
                  clear HF g3 g4
                  have hq : decide (0 ≤ la) = false ∨ (decide (0 ≤ la) = true ∧ decide (kn < la + tp) = false) := by
                    by_cases p1 : 0 ≤ la
                    · exact .inr ⟨decide_eq_true p1, b1 (decide_eq_true p1)⟩
                    · exact .inl (decide_eq_false p1)
                  clear b1
                  rcases hq with q1 | ⟨q1, q2⟩
                  all_goals
                    go_wp2_with fail
                    go_quiet (fail)
                    go_wp2_with fail
                    have HB3 : Hid (Below w.heap.size w (w2.drewN nq)) := below_drewM HB2.out nq
                    have HBC : Hid (Below W1.heap.size W1 (w2.drewN nq)) := below_drewM HBB.out nq
                    have u3 : (w2.drewN nq).cell? ⟨kb, 3, none⟩ = some (.int .i64 kn) := z3
                    have hklD : kb < (w2.drewN nq).heap.size := hkl2
                    clear z0 z2 z3 hbl2 hkl2 hz2 HB2 HBB
                    generalize w2.drewN nq = wd at *
                    go_region
                    obtain ⟨W3, hW3⟩ : ∃ W3, W3 = (wd.alloc (.cells #[.int .i64 (t : Int), .int .i64 kn, .int .i64 (kn + jit), .slice none 0 0, .int .i64 0, .int .i64 (-1), .int .i64 0] 148)).drew := ⟨_, rfl⟩
                    have hbx3 : (wd.alloc (.cells #[.int .i64 (t : Int), .int .i64 kn, .int .i64 (kn + jit), .slice none 0 0, .int .i64 0, .int .i64 (-1), .int .i64 0] 148)).drew.rowIs wd.heap.size 148 7 _ := row7 wd (.int .i64 (t : Int)) (.int .i64 kn) (.int .i64 (kn + jit)) (.slice none 0 0) (.int .i64 0) (.int .i64 (-1)) (.int .i64 0) 148
                    rw [← hW3] at hbx3 ⊢
                    have hb3 : Below wd.heap.size wd W3 := by rw [hW3]; exact (below_alloc1 _ _).trans (bel_drew _ |>.mono (by simp))
                    have HBD3 : Hid (Below W1.heap.size W1 W3) := HBC.out.trans (hb3.mono HBC.out.size)
                    have HROW3 : Hid _ := hbx3
                    have r3 : W3.cell? ⟨wd.heap.size, 3, none⟩ = some (.slice none 0 0) := hbx3.cell (by omega)
                    have rz : ∀ q, W3.frozen? ⟨wd.heap.size, q, none⟩ = false := fun q => hbx3.frozen q
                    have hbj3 := hbx3.lt
                    have hbjW : W1.heap.size ≤ wd.heap.size := HBC.out.size
                    clear hW3 hb3 hbx3 u3 hklD HB3
                    generalize wd.heap.size = bj at *
                    have hfit : Fits (T.K t) (T.N t) (T.L t) (fun q => dem.getD q 0) dem.length := by rw [← fitsB_true]; exact HFB.out.symm
                    obtain ⟨hd1, hd16⟩ := fits_pos hfit hL1 (HO.out.steps t htn).2.1
                    have HFIT : Hid (Fits (T.K t) (T.N t) (T.L t) (fun q => dem.getD q 0) dem.length) := hfit
                    obtain ⟨rb, rf, hao, hrl, hri⟩ := HD1.out hd1
                    subst hao
                    have hnews := dem_cells (w := W3) (rb := rb) (rf := rf) (dem := dem) (fun j hj => (HBD3.out.cell (p := ⟨rb, rf + j, none⟩) hrl).trans (hri j hj))
                    have HNW : Hid (∀ j u, (dem.map (Value.int .i64))[j]? = some u → W3.cell? ((⟨rb, rf, none⟩ : Addr).add j) = some u) := hnews
                    have hz3 := HBD3.out.size
                    clear hnews hri hfit
                    go_wp2_with (at_builtin; refine wpList_append_own3 _ rfl _ _ 23 rfl bx 3 i3 (.int .i64 0) 1 8 Tryz.underlying23 hi3 hz30 hz31 hz32 rfl (by decide) (.slice none 0 0) 0 [] rfl (World.ownsRow_nil _ _ _ _) ⟨rb, rf, none⟩ dem.length dc (dem.map (Value.int .i64)) rfl ?_ HNW.out ?_ ?_ ?_ ?_ ?_)
                    any_goals (first | (rw [List.length_map]; omega) | (intro u hu; obtain ⟨x, _, rfl⟩ := List.mem_map.1 hu; rfl) | (intro _ _; rfl) | (unfold maxLen; omega) | omega)
                    intro vD wD hownD hgD
                    obtain ⟨gD, cD, hvD, hgD1, hgD2⟩ := own_some hownD hd1
                    subst hvD
                    have hrowD := World.rowIs.of_block HROW3.out (hgD.by'.block bj hbj3 (by simp [Value.ownBlock]))
                    have s3 : wD.cell? ⟨bj, 3, none⟩ = some (.slice none 0 0) := hrowD.cell (by omega)
                    have sz : ∀ q, wD.frozen? ⟨bj, q, none⟩ = false := fun q => hrowD.frozen q
                    have hbjD := hrowD.lt
                    obtain ⟨X, hX⟩ : ∃ X, X = wD.setCell ⟨bj, 3, none⟩ (.slice (some ⟨gD, 0, none⟩) dem.length cD) := ⟨_, rfl⟩
                    have hrowX := hrowD.set 3 (.slice (some ⟨gD, 0, none⟩) dem.length cD)
                    have hownX := own_setOther (i := 3) hownD hrowD (by decide) (.slice (some ⟨gD, 0, none⟩) dem.length cD)
                    have hbX : Below W1.heap.size W1 (wD.setCell ⟨bj, 3, none⟩ (.slice (some ⟨gD, 0, none⟩) dem.length cD)) := (HBD3.out.grown hgD.by' hz3 (fun q hq => by simp [Value.ownBlock] at hq)).setCell hbjW _
                    rw [← hX] at hrowX hownX hbX
                    have HX : Hid (X = wD.setCell ⟨bj, 3, none⟩ (.slice (some ⟨gD, 0, none⟩) dem.length cD)) := hX
                    have hkX := HRK1.out.below hbX
                    have htX := HRT1.out.below hbX
                    have v0 : X.cell? ⟨bj, 0, none⟩ = some (.int .i64 (t : Int)) := hrowX.cell (by omega)
                    have v1 : X.cell? ⟨bj, 1, none⟩ = some (.int .i64 kn) := hrowX.cell (by omega)
                    have v2 : X.cell? ⟨bj, 2, none⟩ = some (.int .i64 (kn + jit)) := hrowX.cell (by omega)
                    have v3 : X.cell? ⟨bj, 3, none⟩ = some (.slice (some ⟨gD, 0, none⟩) dem.length cD) := hrowX.cell (by omega)
                    have v4 : X.cell? ⟨bj, 4, none⟩ = some (.int .i64 0) := hrowX.cell (by omega)
                    have v5 : X.cell? ⟨bj, 5, none⟩ = some (.int .i64 (-1)) := hrowX.cell (by omega)
                    have v6 : X.cell? ⟨bj, 6, none⟩ = some (.int .i64 0) := hrowX.cell (by omega)
                    have vk : X.cell? ⟨kb, 2, none⟩ = some (.slice jo k.jobs.length jc) := by rw [hkX.rc.2.2.1, HJS.out]
                    have vf : X.frozen? ⟨kb, 2, none⟩ = false := hkX.row.frozen 2
                    have hkXl := hkX.row.lt
                    have hbjX := hrowX.lt
                    have HKX : Hid (RKAt X B kb tb tc pb pc n T Z k jv dv) := hkX
                    have HTX : Hid (RKT X tb pb n T k dv) := htX
                    have HOX : Hid (X.ownsRow bx 3 1 (.slice (some ⟨gD, 0, none⟩) dem.length cD) dem.length (dem.map (Value.int .i64))) := hownX
                    have HBX : Hid (Below W1.heap.size W1 X) := hbX
                    have HJO : Hid (X.ownsRow B 148 7 (.slice jo k.jobs.length jc) k.jobs.length (jobCs dv 0 k.jobs)) := by have := hkX.jobs; rw [HJS.out] at this; exact this
                    have HBZ : Hid (B ≤ X.heap.size) := Nat.le_trans hBW hbX.size
                    clear hownD hgD hrowD hrowX hownX hbX hkX htX hX HROW3
                    go_wp2_with fail
                    rw [← HX.out]
                    have hjlt : ∀ b, (Value.slice jo k.jobs.length jc).ownBlock = some b → b < W1.heap.size ∧ b ≠ kb := fun b hb => by
                      have h1 := HRK1.out.jobs
                      rw [HJS.out] at h1
                      refine ⟨(h1.lt b hb).2, fun e => ?_⟩
                      obtain ⟨_, _, hr⟩ := own_rowE h1 hb
                      exact row_ne hr HRK1.out.row (by decide) e
                    have HAPP : Hid (∀ wx v9 w9, Grew wx w9 (.slice jo k.jobs.length jc) v9 → Below X.heap.size X wx → w9.frozen? ⟨kb, 2, none⟩ = false ∧ (w9.cell? ⟨kb, 2, none⟩ = some (.slice jo k.jobs.length jc) ∧ w9.cell? ⟨bj, 0, none⟩ = some (.int .i64 (t : Int)) ∧ w9.cell? ⟨bj, 1, none⟩ = some (.int .i64 kn) ∧ w9.cell? ⟨bj, 2, none⟩ = some (.int .i64 (kn + jit)) ∧ w9.cell? ⟨bj, 3, none⟩ = some (.slice (some ⟨gD, 0, none⟩) dem.length cD) ∧ w9.cell? ⟨bj, 4, none⟩ = some (.int .i64 0) ∧ w9.cell? ⟨bj, 5, none⟩ = some (.int .i64 (-1)) ∧ w9.cell? ⟨bj, 6, none⟩ = some (.int .i64 0))) := by
                      intro wx v9 w9 hg9 hbx'
                      have b1 : w9.heap[kb]? = X.heap[kb]? := (hg9.by'.block kb (Nat.lt_of_lt_of_le hkXl hbx'.size) (fun e => (hjlt kb e.symm).2 rfl)).trans (hbx'.block _ hkXl)
                      have b2 : w9.heap[bj]? = X.heap[bj]? := (hg9.by'.block bj (Nat.lt_of_lt_of_le hbjX hbx'.size) (fun e => by have := (hjlt bj e.symm).1; omega)).trans (hbx'.block _ hbjX)
                      exact ⟨(World.frozen?_of_block (a := ⟨kb, 2, none⟩) b1).trans vf, (cell_same b1).trans vk, (cell_same b2).trans v0, (cell_same b2).trans v1, (cell_same b2).trans v2, (cell_same b2).trans v3, (cell_same b2).trans v4, (cell_same b2).trans v5, (cell_same b2).trans v6⟩
                    have HEND : Hid (∀ wx v9 w9, Grew wx w9 (.slice jo k.jobs.length jc) v9 → Below X.heap.size X wx → w9.ownsRow B 148 7 v9 (k.jobs.length + 1) (jobCs dv 0 k.jobs ++ [.int .i64 (t : Int), .int .i64 kn, .int .i64 (kn + jit), .slice (some ⟨gD, 0, none⟩) dem.length cD, .int .i64 0, .int .i64 (-1), .int .i64 0]) →
                        RAft w (w9.setCell ⟨kb, 2, none⟩ v9) B kb tb tc pb pc n T Z (added (sysOf T Z n) m t jit (fun q => dem.getD q 0)) k jv dv { k with jobs := k.jobs ++ [⟨t, kn, kn + jit, dem, 0, -1, 0⟩] } v9 (fun i => if i = k.jobs.length then (some ⟨gD, 0, none⟩, cD) else dv i)) := by
                      intro wx v9 w9 hg9 hbx' hs9
                      have hk9 := HKX.out.below hbx'
                      have ht9 := HTX.out.below hbx'
                      have ho9 := own_same HOX.out (fun b hb => hbx'.block b (HOX.out.lt b hb).2)
                      have hgg := hg9.by'
                      rw [← HJS.out] at hgg
                      obtain ⟨a1, a2, a3⟩ := hk9.addJ ht9 (x := ⟨t, kn, kn + jit, dem, 0, -1, 0⟩) (d := (some ⟨gD, 0, none⟩, cD)) (own_dem ho9) (fun a ha => by cases ha; exact own_rowE ho9 rfl) hs9 hgg
                      have hrr := rr_added (jit := jit) (dem := dem) HRR.out HO.out htn HFIT.out
                      have hbw : Below w.heap.size w wx := by
                        rw [HBXE.out]
                        exact (HBW.out.trans (HBX.out.mono hsz1)).trans (hbx'.mono (by have := HBX.out.size; omega))
                      refine ⟨a1, a2, ?_, (Fr.of_below _ hbw).then a3, fun b hb => ?_, fun i y hy a ha => ?_⟩
                      · have e := HKE.out
                        subst e
                        exact hrr
                      · rcases hg9.lt hb with e | e
                        · exact .inl (by rw [HJS.out]; exact e)
                        · exact .inr (Nat.le_trans hbw.size e)
                      · have ha' : (if i = k.jobs.length then ((some ⟨gD, 0, none⟩ : Option Addr), cD) else dv i).1 = some a := ha
                        rcases snoc_get hy with ⟨e, _⟩ | ⟨hlt, g⟩
                        · rw [if_pos e] at ha'
                          cases ha'
                          exact .inr (by rw [HBXE.out]; exact hgD1)
                        · rw [if_neg (by omega)] at ha'
                          exact .inl ⟨y, g, ha'⟩
                    clear HX s3 sz hbjD hgD2 r3 rz hbj3 HNW
                    go_region_law (refine step_append_own3R rfl (.tmp 125) (.tmp 127) 114 rfl B 148 i14 _ 7 72 Tryz.underlying114 hi14 hz140 hz141 hz142 rfl (by decide) (.slice jo k.jobs.length jc) k.jobs.length (jobCs dv 0 k.jobs) (by simp [Act.eval]) (HJO.out.alloc _) ⟨X.heap.size, 0, none⟩ 1 1 _ (by simp [Act.eval]) rfl (cells7_new X _ _ _ _ _ _ _ _) (by intro u hu; simp at hu; rcases hu with rfl | rfl | rfl | rfl | rfl | rfl | rfl <;> rfl) (by unfold maxLen; omega) (by omega) (by simp; have := HBZ.out; omega) ?_; intro v9 w9 hs9 hg9; have ⟨hfz9, hcells⟩ := HAPP.out _ v9 w9 hg9 ⟨rfl, rfl, rfl, (below_alloc1 X _).size, (below_alloc1 X _).block⟩; have hRA := HEND.out _ v9 w9 hg9 ⟨rfl, rfl, rfl, (below_alloc1 X _).size, (below_alloc1 X _).block⟩ hs9; have HRA : Hid _ := hRA; obtain ⟨g9, c9, rfl⟩ := own_slice hs9; clear hs9 hg9 hRA)
                    all_goals
                      go_wp2
                      go_ret
                      rw [HE.out]
                      exact ⟨rfl, _, _, _, HRA.out⟩

end Go.Proofs.YtdabcflpcklfiaaGreat
