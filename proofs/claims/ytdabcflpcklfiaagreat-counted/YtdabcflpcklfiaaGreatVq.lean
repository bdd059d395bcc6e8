import Derived.Test.YtdabcflpcklfiaaGreatVr
/- The law's arrives, walked. -/
namespace Go.Proofs.YtdabcflpcklfiaaGreat
open Go.RowKit Cad

theorem Tryz.underlying81 : Tryz.prog.underlying 81 = some (.slice 78) := by kernel_rfl
theorem Tryz.info78 : (Tryz.prog.info? 78).map (fun i => (i.zero, i.size, i.bytes)) = some (some (.pointer none), 1, 8) := by kernel_rfl

set_option maxRecDepth 100000 in
set_option maxHeartbeats 8000000 in
theorem arrivesW_any {n kb wb b off cap rn rc : Nat} {pv : Value} {ro : Option Addr} {T : TD} {Z R : Nat → Int} {m : Mc} {w0 w : World} (x y us : Int) (hG : Good T n) (hb : b < w0.heap.size) (hT : TasksAt w0 b off n T) (hR : RawAt w0 ro rn R) (hx : I64 x) (hy : I64 y)
    (h : WSt w0 w n kb wb (.slice (some ⟨b, off, none⟩) n cap) pv (sysOf T Z n) m) (hnow : m.now < 1000000000000000000) (har : m.arrd < 1000000000000000000) :
    Calls Tryz.prog 9 #[.pointer (some ⟨wb, 0, none⟩), .agg #[.int .i64 x, .int .i64 y, .int .i64 us, .slice ro rn rc]] w fun e w' => e = .returned (.tuple #[]) ∧ WSt w0 w' n kb wb (.slice (some ⟨b, off, none⟩) n cap) pv (sysOf T Z n) (stepA T Z n m x y R rn).1 := by
  obtain ⟨u, dn, Y, hA, hS, rfl, hK, hI, hL, hB, hC⟩ := h
  have hn8 := hG.eight
  have h1n := hG.one
  have ho := hK.ok
  have hs0 := hB.size
  obtain ⟨htk, htp⟩ := tkOf_lt (x := x) hG.one
  have HBE : Hid (Below w.heap.size w (w.alloc (.cells #[.int .i64 x, .int .i64 y, .int .i64 us, .slice ro rn rc] 42))) := below_alloc1 _ _
  have hbx := box4 w (.int .i64 x) (.int .i64 y) (.int .i64 us) (.slice ro rn rc) 42
  have hA0 := hA.below HBE.out
  have hB0 : Below w0.heap.size w0 (w.alloc (.cells #[.int .i64 x, .int .i64 y, .int .i64 us, .slice ro rn rc] 42)) := hB.trans (HBE.out.mono hs0)
  have HKO : Hid (KSt (fun q => (q < w0.heap.size ∨ footW n u dn Y q) ∨ q = w.heap.size) (w.alloc (.cells #[.int .i64 x, .int .i64 y, .int .i64 us, .slice ro rn rc] 42)) kb (sysOf T Z n) m) := (hK.more (own' := fun q => (q < w0.heap.size ∨ footW n u dn Y q) ∨ q = w.heap.size) (by
    rintro q (h | h)
    · exact .inl h
    · exact .inr (by omega))).below HBE.out
  have hown : ∀ q, ((q < w0.heap.size ∨ footW n u dn Y q) ∨ q = w.heap.size) → q < (w.alloc (.cells #[.int .i64 x, .int .i64 y, .int .i64 us, .slice ro rn rc] 42)).heap.size := by
    rw [World.size_alloc]
    rintro q ((h | h) | h)
    · omega
    · have := (hA.foot_lt h).2; omega
    · omega
  have HAR : Hid (∀ w1, Below (w.alloc (.cells #[.int .i64 x, .int .i64 y, .int .i64 us, .slice ro rn rc] 42)).heap.size (w.alloc (.cells #[.int .i64 x, .int .i64 y, .int .i64 us, .slice ro rn rc] 42)) w1 → Calls Tryz.prog 26 #[.pointer (some ⟨kb, 0, none⟩), .slice (some ⟨b, off, none⟩) n cap, .agg #[.int .i64 x, .int .i64 y, .int .i64 us, .slice ro rn rc]] w1 fun e w' =>
      e = .returned (.tuple #[.int .i64 (tkOf n x : Int), .bool (decide ((stepA T Z n m x y R rn).2 = 0))]) ∧ (w'.cell? ⟨Y.wb, 0, none⟩ = some (.pointer (some ⟨kb, 0, none⟩)) ∧ w'.cell? ⟨Y.wb, 1, none⟩ = some (.slice (some ⟨b, off, none⟩) n cap) ∧ w'.cell? ⟨w.heap.size, 0, none⟩ = some (.int .i64 x) ∧ w'.cell? ⟨w.heap.size, 1, none⟩ = some (.int .i64 y) ∧ w'.cell? ⟨w.heap.size, 2, none⟩ = some (.int .i64 us) ∧ w'.cell? ⟨w.heap.size, 3, none⟩ = some (.slice ro rn rc)) ∧ Hid (KSt (fun q => (q < w0.heap.size ∨ footW n u dn Y q) ∨ q = w.heap.size) w' kb (sysOf T Z n) (stepA T Z n m x y R rn).1 ∧ Fr (fun q => ¬ ((q < w0.heap.size ∨ footW n u dn Y q) ∨ q = w.heap.size)) (w.alloc (.cells #[.int .i64 x, .int .i64 y, .int .i64 us, .slice ro rn rc] 42)) w')) := by
    intro w1 hb1
    have hB1 := hB0.trans (hb1.mono hB0.size)
    refine (arrives_any (Z := Z) x y us hG (fun q hq => Nat.lt_of_lt_of_le (hown q hq) hb1.size) (.inl (.inl hb)) (HKO.out.below hb1) har (TasksAt.below hT hb hB1) hx hy (hR.below hB1)).mono ?_
    rintro e w' ⟨h1, h2, h3⟩
    have h4 := (Fr.of_below _ hb1).then h3
    have hA' : WAt w' w0.heap.size n kb (.slice (some ⟨b, off, none⟩) n cap) pv u dn Y := hA0.same (fun q hq => h4.block q (hA0.foot_lt hq).2 (fun e => e (.inl (.inr hq))))
    have hbx' := h4.row hbx (fun e => e (.inr rfl))
    obtain ⟨c0, c1, _⟩ := hA'.wc
    exact ⟨h1, ⟨c0, c1, hbx'.cell (by omega), hbx'.cell (by omega), hbx'.cell (by omega), hbx'.cell (by omega)⟩, h2, h4⟩
  obtain ⟨c0, c1, _⟩ := hA0.wc
  have hwl := hA0.wrow.lt
  have s0 : (w.alloc (.cells #[.int .i64 x, .int .i64 y, .int .i64 us, .slice ro rn rc] 42)).cell? ⟨w.heap.size, 0, none⟩ = some (.int .i64 x) := hbx.cell (by omega)
  have s1 : (w.alloc (.cells #[.int .i64 x, .int .i64 y, .int .i64 us, .slice ro rn rc] 42)).cell? ⟨w.heap.size, 1, none⟩ = some (.int .i64 y) := hbx.cell (by omega)
  have s2 : (w.alloc (.cells #[.int .i64 x, .int .i64 y, .int .i64 us, .slice ro rn rc] 42)).cell? ⟨w.heap.size, 2, none⟩ = some (.int .i64 us) := hbx.cell (by omega)
  have s3 : (w.alloc (.cells #[.int .i64 x, .int .i64 y, .int .i64 us, .slice ro rn rc] 42)).cell? ⟨w.heap.size, 3, none⟩ = some (.slice ro rn rc) := hbx.cell (by omega)
  have hbxl : w.heap.size < (w.alloc (.cells #[.int .i64 x, .int .i64 y, .int .i64 us, .slice ro rn rc] 42)).heap.size := by rw [World.size_alloc]; omega
  have HBX : Hid ((w.alloc (.cells #[.int .i64 x, .int .i64 y, .int .i64 us, .slice ro rn rc] 42)).rowIs w.heap.size 42 4 (fun q => if q = 0 then .int .i64 x else if q = 1 then .int .i64 y else if q = 2 then .int .i64 us else .slice ro rn rc)) := hbx
  have HA0 : Hid (WAt (w.alloc (.cells #[.int .i64 x, .int .i64 y, .int .i64 us, .slice ro rn rc] 42)) w0.heap.size n kb (.slice (some ⟨b, off, none⟩) n cap) pv u dn Y) := hA0
  have HB0 : Hid (Below w0.heap.size w0 (w.alloc (.cells #[.int .i64 x, .int .i64 y, .int .i64 us, .slice ro rn rc] 42))) := hB0
  have HS : Hid (WSep n u dn Y) := hS
  have HI : Hid (WI (sysOf T Z n) m u) := hI
  have HL : Hid (LkInv (sysOf T Z n) m) := hL
  have HCN : Hid (CN (sysOf T Z n) m u) := hC
  have HO : Hid (Ok (sysOf T Z n) m) := ho
  have HG : Hid (Good T n) := hG
  have HT : Hid (TasksAt w0 b off n T) := hT
  have HR : Hid (RawAt w0 ro rn R) := hR
  have HY : Hid (I64 y) := hy
  have HC := stepA_cases T Z n m x y R rn
  obtain ⟨m', hm'⟩ : ∃ m', (stepA T Z n m x y R rn).1 = m' := ⟨_, rfl⟩
  have HM' : Hid ((stepA T Z n m x y R rn).1 = m') := hm'
  rw [hm'] at HC ⊢
  have HC1 : Hid _ := HC
  obtain ⟨okb, hokb⟩ : ∃ okb, decide ((stepA T Z n m x y R rn).2 = 0) = okb := ⟨_, rfl⟩
  have HOK : Hid (decide ((stepA T Z n m x y R rn).2 = 0) = okb) := hokb
  rw [hokb, hm'] at HAR
  clear hm' hokb HC htp
  have hlo : ∀ q, footW n u dn Y q → w0.heap.size ≤ q ∧ q < w.heap.size := fun q h => hA.foot_lt h
  have HLO : Hid (∀ q, footW n u dn Y q → w0.heap.size ≤ q ∧ q < w.heap.size) := hlo
  clear hA hS hK hI hL hB hC hA0 hB0 hbx hown HKO ho hG hT hR hx hy hlo HBE
  go_enter Tryz.func9, Tryz.ntmps9
  go_wp2_with fail
  have hs1' : w.heap.size < (w.alloc (.cells #[.int .i64 x, .int .i64 y, .int .i64 us, .slice ro rn rc] 42)).heap.size := hbxl
  generalize (w.alloc (.cells #[.int .i64 x, .int .i64 y, .int .i64 us, .slice ro rn rc] 42)) = W0 at *
  generalize hbxe : w.heap.size = bx at *
  clear hbxe hs1'
  refine' (fun (key : Hid _) => ?_) ?_
  rotate_left
  · go_region_with (go_at_call 26; refine (HAR.out _ (below_drewM (Below.refl _ _) 1)).mono ?_; rintro e w1 ⟨rfl, hcells, hks⟩)
    all_goals
      clear hcells
      revert w1
      exact key.out
  rotate_left
  intro w1 hks
  obtain ⟨hK1, hF1⟩ := hks.out
  clear hks
  have hA1 : WAt w1 w0.heap.size n kb (.slice (some ⟨b, off, none⟩) n cap) pv u dn Y := HA0.out.same (fun q hq => hF1.block q (HA0.out.foot_lt hq).2 (fun e => e (.inl (.inr hq))))
  have hB1 : Below w0.heap.size w0 w1 := HB0.out.trans (hF1.below HB0.out.size (fun i hi => Nat.le_of_not_lt (fun e => hi (.inl (.inl e)))))
  have hbx1 := hF1.row HBX.out (fun e => e (.inr rfl))
  have hs1 : bx < w1.heap.size := by have := hF1.size; omega
  clear c0 c1 s0 s1 s2 s3 hbxl HAR hwl
  rcases HC1.out with ⟨hne, hm⟩ | ⟨he0, hm, href⟩
  · have hd : okb = false := by rw [← HOK.out]; exact decide_eq_false hne
    subst hd
    have HFIN : Hid (WSt w0 w1 n kb Y.wb (.slice (some ⟨b, off, none⟩) n cap) pv (sysOf T Z n) m') := by
      unfold Hid
      rw [hm] at hK1 ⊢
      exact ⟨u, dn, Y, hA1, HS.out, rfl, hK1.more (fun q h => .inl (.inl h)), HI.out, HL.out, hB1, HCN.out⟩
    clear hK1 hF1 hA1 hB1 hbx1 hne hm HC1
    go_wp2
    (try simp only [Exit.inBlock, Exit.then]); refine bodyPost_ret (results_none rfl _ _ _) rfl ?_
    exact ⟨rfl, HFIN.out⟩
  · have hd : okb = true := by rw [← HOK.out]; exact decide_eq_true he0
    subst hd
    subst hm
    clear HM' HOK HC1
    obtain ⟨hfit, hj0, hj1, hq8, _⟩ := refuse_zero href
    clear he0 href hF1
    have hJ := HG.out.times (tkOf n x) htk
    generalize htke : tkOf n x = t at *
    have HTK : Hid (tkOf n x = t) := htke
    clear htke
    obtain ⟨hl1, hl16, _, hpi⟩ := progB_inv (HG.out.prog t htk)
    have HLC : Hid ((demOf T t R rn).length = cmpTo ((sysOf T Z n).K t) ((sysOf T Z n).L t)) := demsOf_len _ _ _ _ _
    have hll : (demOf T t R rn).length ≤ 16 := by rw [HLC.out]; have := cmpTo_le (T.K t) (T.L t); show cmpTo (T.K t) (T.L t) ≤ 16; omega
    have HLR : Hid (∀ i, i < (demOf T t R rn).length → 1 ≤ (demOf T t R rn).getD i 0 ∧ (demOf T t R rn).getD i 0 ≤ 100) := dems_rng R rn (fun k hk h1 => by
      rcases hpi.steps k hk with h | h | h
      · exact h.2
      · omega
      · omega)
    have hask : 0 ≤ u.asked ∧ u.asked < 1000000000001000000 := by
      have h1 := HCN.out.given
      have h2 := HCN.out.asked
      have h3 := leftTo_range HO.out n (Nat.le_refl _)
      have h4 : leftTo m (sysOf T Z n).n = leftTo m n := rfl
      have h5 : 0 ≤ u.idle ∧ u.idle ≤ u.now := by rw [HI.out.idle, HI.out.now]; exact HO.out.idle
      have h6 : u.now < 1000000000000000000 := by rw [HI.out.now]; exact hnow
      omega
    have HW : Hid (WI (sysOf T Z n) (added (sysOf T Z n) m t (jitOf T t y) (fun q => (demOf T t R rn).getD q 0)) (warr u t (jitOf T t y) (demOf T t R rn))) := wi_arr HI.out htk hj0 HLC.out
    have HLK : Hid (LkInv (sysOf T Z n) (added (sysOf T Z n) m t (jitOf T t y) (fun q => (demOf T t R rn).getD q 0))) := lk_added HL.out htk hfit
    have HK1 : Hid (KSt (fun q => (q < w0.heap.size ∨ footW n u dn Y q) ∨ q = bx) w1 kb (sysOf T Z n) (added (sysOf T Z n) m t (jitOf T t y) (fun q => (demOf T t R rn).getD q 0))) := hK1
    obtain ⟨_, _, t2, t3, tp⟩ := TasksAt.below HT.out hb hB1 t htk
    obtain ⟨sb, so, hAd, hsb, hst⟩ := tp.2 hl1
    rw [hAd] at t3
    have HDM : Hid (∀ w', Below w1.heap.size w1 w' → Calls Tryz.prog 27 #[.slice (some ⟨sb, so, none⟩) (T.L t) (T.C t), .slice ro rn rc] w' fun e w2 => ∃ v, e = .returned v ∧ Hid (w2.ownsRow w1.heap.size 3 1 v (demOf T t R rn).length ((demOf T t R rn).map (Value.int .i64)) ∧ Below w1.heap.size w1 w2)) := by
      intro w' hb'
      have hs' := hb'.size
      have hR' := HR.out.below (hB1.trans (hb'.mono hB1.size))
      refine (dems_any sb so (T.L t) (T.C t) rn rc ro (T.K t) (T.N t) R w' hl16 (fun k hk h1 => by
        rcases hpi.steps k hk with h | h | h
        · exact h.2
        · omega
        · omega) (by omega) (fun k hk => ⟨(hb'.cell (p := ⟨sb, so + k * 2, none⟩) hsb).trans (hst k hk).1, (hb'.cell (p := ⟨sb, so + k * 2 + 1, none⟩) hsb).trans (hst k hk).2⟩) hR'.1 hR'.2.1 hR'.2.2).mono ?_
      rintro e w2 ⟨v, he, ho, hb2⟩
      refine ⟨v, he, ⟨ho.1, ?_⟩, hb'.trans (hb2.mono hs')⟩
      rcases ho.2 with g | ⟨g, cp, cur, h1, h2, h3⟩
      · exact .inl g
      · exact .inr ⟨g, cp, cur, h1, by omega, h3⟩
    obtain ⟨_, k1, _, k3, k4, _, _, k7⟩ := hA1.wc
    have hwl1 := hA1.wrow.lt
    have hbw1 : b < w1.heap.size := by have := hB1.size; omega
    have y1 : w1.cell? ⟨bx, 1, none⟩ = some (.int .i64 y) := hbx1.cell (by omega)
    have y3 : w1.cell? ⟨bx, 3, none⟩ = some (.slice ro rn rc) := hbx1.cell (by omega)
    have HA1 : Hid (WAt w1 w0.heap.size n kb (.slice (some ⟨b, off, none⟩) n cap) pv u dn Y) := hA1
    have HB1 : Hid (Below w0.heap.size w0 w1) := hB1
    have HBX1 : Hid (w1.rowIs bx 42 4 (fun q => if q = 0 then .int .i64 x else if q = 1 then .int .i64 y else if q = 2 then .int .i64 us else .slice ro rn rc)) := hbx1
    generalize hlst : demOf T t R rn = l at *
    generalize hjt : jitOf T t y = jt at *
    have HJT : Hid (jt = pickI y (T.J t + 1)) := hjt.symm
    have HJT0 : Hid (jitOf T t y = jt) := hjt
    have HLST : Hid (demOf T t R rn = l) := hlst
    clear hK1 hA1 hB1 hbx1 hfit hq8 hpi tp hst hAd hlst hjt
    go_wp2_with fail
    refine' (fun (key : Hid _) => ?_) ?_
    rotate_left
    · go_region_with (go_at_call 27; refine (HDM.out _ (below_drewM (Below.refl _ _) 1)).mono ?_; rintro e w2 ⟨v, rfl, hown2⟩)
      all_goals
        revert w2 v
        exact key.out
    rotate_left
    intro w2 v hown2
    obtain ⟨hown2, hb2⟩ := hown2.out
    have hsl2 := SL.of_own (B := w0.heap.size) hown2 HB1.out.size
    have hvb : ∀ q, v.ownBlock = some q → w1.heap.size ≤ q := fun q hq => ((SL.of_own (B := w1.heap.size) hown2 (Nat.le_refl _)).lt q hq).1
    obtain ⟨ao, cp, hv⟩ := hsl2.shape
    rw [ints_len] at hv
    subst hv
    have HSL : Hid (SL 3 w2 w0.heap.size (.slice ao l.length cp) (ints l)) := hsl2
    have HVB : Hid (∀ q, (Value.slice ao l.length cp).ownBlock = some q → w1.heap.size ≤ q) := hvb
    have HB2 : Hid (Below w1.heap.size w1 w2) := hb2
    have HA2 : Hid (WAt w2 w0.heap.size n kb (.slice (some ⟨b, off, none⟩) n cap) pv u dn Y) := HA1.out.below hb2
    have hsz2 := hb2.size
    clear HDM k1 k3 k4 k7 y1 y3 t2 t3 hsl2 hvb hown2 hb2
    go_wp2_with fail
    go_loopw [7] (fun iv wr => ∃ i : Nat, i ≤ l.length ∧ iv = .int .i64 i ∧ WMove w0.heap.size n kb (.slice (some ⟨b, off, none⟩) n cap) pv u { u with asked := u.asked + sumL (l.take i) } dn dn Y Y w2 wr) (fun iv _ => l.length - (intOf iv).toNat)
    case atStart =>
      refine ⟨0, Nat.zero_le _, rfl, ?_⟩
      have e0 : u.asked + sumL (l.take 0) = u.asked := by show u.asked + 0 = _; omega
      rw [e0]
      exact WMove.refl HA2.out HS.out (Below.refl _ _)
    case round =>
      obtain ⟨i, hi, rfl, hM⟩ := hrel
      have HM : Hid (WMove w0.heap.size n kb (.slice (some ⟨b, off, none⟩) n cap) pv u { u with asked := u.asked + sumL (l.take i) } dn dn Y Y w2 wr) := hM
      have hA := hM.at'
      obtain ⟨_, k1, _, k3, k4, _, _, k7⟩ := hA.wc
      have e7 : ({ u with asked := u.asked + sumL (l.take i) } : Wt).asked = u.asked + sumL (l.take i) := rfl
      have e4 : ({ u with asked := u.asked + sumL (l.take i) } : Wt).now = u.now := rfl
      rw [e7] at k7
      rw [e4] at k4
      have hz7 := hA.wrow.frozen 7
      have hwl := hA.wrow.lt
      have hSr : SL 3 wr w0.heap.size (.slice ao l.length cp) (ints l) := HSL.out.of_block (fun q hq => hM.fr.block q (HSL.out.lt q hq).2 (fun hf => by
        have h1 := HVB.out q hq
        have h2 := (HLO.out q hf).2
        omega))
      have hsr := sumL_range HLR.out i hi
      by_cases hlt : i < l.length
      · obtain ⟨g, o, cp', hv, hgl, hc, _⟩ := hSr.at hlt
        cases hv
        have hli := HLR.out i hlt
        have HNX : Hid (∀ w', Below wr.heap.size wr w' → WMove w0.heap.size n kb (.slice (some ⟨b, off, none⟩) n cap) pv u { u with asked := u.asked + sumL (l.take (i + 1)) } dn dn Y Y w2 (w'.setCell ⟨Y.wb, 7, none⟩ (.int .i64 (u.asked + sumL (l.take i) + l.getD i 0)))) := by
          intro w' hb'
          have hM' := hM.below hb'
          have := hM'.trans (hM'.at'.moveAsked hM'.sep (u.asked + sumL (l.take i) + l.getD i 0))
          rw [sumL_snoc l i hlt, ← Int.add_assoc]
          exact this
        generalize l.getD i 0 = li at *
        generalize sumL (l.take i) = sl at *
        clear hM hA hSr k1 k3 k4 e7 e4
        go_wp2_with fail
        refine' (fun (key : Hid _) => ?_) ?_
        rotate_left
        · go_region
          all_goals exact key.out
        rotate_left
        unfold Hid
        go_wp2
        go_roundw
        case rel => exact ⟨i + 1, by omega, by go_num, HNX.out _ (bel_drew _)⟩
        case measure => simp [intOf]; omega
      · obtain rfl : i = l.length := by omega
        have HBr : Hid (Below w0.heap.size w0 wr) := (HB1.out.trans (HB2.out.mono HB1.out.size)).trans (hM.fr.below (by have := HB1.out.size; omega) (fun q hq => (HLO.out q hq).1))
        have hbxr : wr.rowIs bx 42 4 (fun q => if q = 0 then .int .i64 x else if q = 1 then .int .i64 y else if q = 2 then .int .i64 us else .slice ro rn rc) := hM.fr.row (HBX1.out.of_block (HB2.out.block _ HBX1.out.lt)) (fun hf => by have := (HLO.out bx hf).2; omega)
        have y1 : wr.cell? ⟨bx, 1, none⟩ = some (.int .i64 y) := hbxr.cell (by omega)
        have hbxl := hbxr.lt
        obtain ⟨_, _, t2, _⟩ := TasksAt.below HT.out hb HBr.out t htk
        have hbl : b < wr.heap.size := by have := HBr.out.size; omega
        have HPK : Hid (∀ w', Calls Tryz.prog 10 #[.int .i64 y, .int .i64 (T.J t + 1)] w' fun e w'' => e = .returned (.int .i64 jt) ∧ w'' = w') := fun w' => by
          rw [HJT.out]
          exact pick_any y (T.J t + 1) w' HY.out (by omega) (by omega)
        have HWR : Hid (IntKind.i64.wrap (T.J t + 1) = T.J t + 1) := by unfold Hid; simp [IntKind.wrap, IntKind.bits, IntKind.signed]; omega
        have HWN : Hid (IntKind.i64.wrap (u.now + jt) = u.now + jt) := by
          have h1 : 0 ≤ u.now ∧ u.now < 1000000000000000000 := by rw [HI.out.now]; exact ⟨HO.out.now0, hnow⟩
          have h2 : jt ≤ T.J t := hj1
          unfold Hid; simp [IntKind.wrap, IntKind.bits, IntKind.signed]; omega
        have hn0 : 0 ≤ u.now ∧ u.now < 1000000000000000000 := by rw [HI.out.now]; exact ⟨HO.out.now0, hnow⟩
        have hjr : 0 ≤ jt ∧ jt ≤ 10000 := ⟨hj0, by have h1 : jt ≤ T.J t := hj1; omega⟩
        have HSR : Hid (SL 3 wr w0.heap.size (.slice ao l.length cp) (ints l)) := hSr
        -- the run's block, and what is appended
        obtain ⟨W8, hW8⟩ : ∃ W8, W8 = (wr.alloc (.cells #[.int .i64 (t : Int), .int .i64 (u.now + jt), .slice ao l.length cp, .int .i64 0, .slice none 0 0, .slice none 0 0, .int .i64 (-1), .int .i64 0] 80)).drew := ⟨_, rfl⟩
        have hb8 : Below wr.heap.size wr W8 := by rw [hW8]; exact (below_alloc1 _ _).drew
        have hr8 : W8.rowIs wr.heap.size 80 8 (rcell t ⟨u.now + jt, l, 0, [], [], -1, 0⟩ (fun c => if c = 0 then .slice ao l.length cp else .slice none 0 0)) := by
          rw [hW8]
          have h0 := (box8 wr (.int .i64 (t : Int)) (.int .i64 (u.now + jt)) (.slice ao l.length cp) (.int .i64 0) (.slice none 0 0) (.slice none 0 0) (.int .i64 (-1)) (.int .i64 0) 80).congr (g := rcell t ⟨u.now + jt, l, 0, [], [], -1, 0⟩ (fun c => if c = 0 then .slice ao l.length cp else .slice none 0 0)) (fun p hp => by
            match p, hp with
            | 0, _ => rfl
            | 1, _ => rfl
            | 2, _ => rfl
            | 3, _ => rfl
            | 4, _ => rfl
            | 5, _ => rfl
            | 6, _ => rfl
            | 7, _ => rfl)
          exact h0
        have HR8 : Hid (W8.rowIs wr.heap.size 80 8 (rcell t ⟨u.now + jt, l, 0, [], [], -1, 0⟩ (fun c => if c = 0 then .slice ao l.length cp else .slice none 0 0))) := hr8
        have HB8 : Hid (Below wr.heap.size wr W8) := hb8
        have hA8 := hA.below hb8
        have HRR : Hid (W8.rowIs Y.rb 81 n Y.sv) := hA8.rrow
        have HWR8 : Hid (W8.rowIs Y.wb 71 8 (wcell kb n (.slice (some ⟨b, off, none⟩) n cap) pv Y.rb { u with asked := u.asked + sumL (l.take l.length) })) := hA8.wrow
        have HSV : Hid (SL 78 W8 w0.heap.size (Y.sv t) (ptrs Y t (dn t) (u.runs t).length)) := hA8.srow t htk
        have HPL : Hid ((ptrs Y t (dn t) (u.runs t).length).length ≤ 1000) := by
          unfold Hid
          rw [ptrs_len]
          have := HI.out.eight HO.out t htk
          omega
        have hs8 := hb8.size
        have HBD : Hid (w0.heap.size ≤ (W8.drew.alloc (.cells #[.pointer (some ⟨wr.heap.size, 0, none⟩)] 78)).heap.size) := by
          have h1 := (bel_da W8 (.cells #[.pointer (some ⟨wr.heap.size, 0, none⟩)] 78)).size
          have h2 := HBr.out.size
          unfold Hid; omega
        have HAPP : Hid (∀ v9 w9, SL 78 w9 w0.heap.size v9 (ptrs Y t (dn t) (u.runs t).length ++ [.pointer (some ⟨wr.heap.size, 0, none⟩)]) → Fr (fun q => (Y.sv t).ownBlock = some q) (W8.drew.alloc (.cells #[.pointer (some ⟨wr.heap.size, 0, none⟩)] 78)) w9 → (∃ ao ln cp, v9 = .slice ao ln cp) ∧ w9.cell? ⟨Y.wb, 3, none⟩ = some (.slice (some ⟨Y.rb, 0, none⟩) n n) ∧ w9.cell? ⟨Y.rb, t, none⟩ = some (Y.sv t) ∧ w9.frozen? ⟨Y.rb, t, none⟩ = false ∧ Y.wb < w9.heap.size ∧ Y.rb < w9.heap.size) := by
          intro v9 w9 hs9 hf9
          obtain ⟨ao9, cp9, e9⟩ := hs9.shape
          have hda := bel_da W8 (.cells #[.pointer (some ⟨wr.heap.size, 0, none⟩)] 78)
          have r1 := hf9.row (HRR.out.of_block (hda.block _ HRR.out.lt)) (HSV.out.ne HRR.out (by decide))
          have r2 := hf9.row (HWR8.out.of_block (hda.block _ HWR8.out.lt)) (HSV.out.ne HWR8.out (by decide))
          exact ⟨⟨ao9, _, cp9, e9⟩, r2.cell (by omega), r1.cell htk, r1.frozen t, r2.lt, r1.lt⟩
        have HEND : Hid (∀ v9 w9, SL 78 w9 w0.heap.size v9 (ptrs Y t (dn t) (u.runs t).length ++ [.pointer (some ⟨wr.heap.size, 0, none⟩)]) → Fr (fun q => (Y.sv t).ownBlock = some q) (W8.drew.alloc (.cells #[.pointer (some ⟨wr.heap.size, 0, none⟩)] 78)) w9 → (∀ b, v9.ownBlock = some b → (Y.sv t).ownBlock = some b ∨ (W8.drew.alloc (.cells #[.pointer (some ⟨wr.heap.size, 0, none⟩)] 78)).heap.size ≤ b) → WSt w0 (w9.setCell ⟨Y.rb, t, none⟩ v9) n kb Y.wb (.slice (some ⟨b, off, none⟩) n cap) pv (sysOf T Z n) (added (sysOf T Z n) m t jt (fun q => l.getD q 0))) := by
          intro v9 w9 hs9 hf9 hn9
          have hda := bel_da W8 (.cells #[.pointer (some ⟨wr.heap.size, 0, none⟩)] 78)
          have r1 := hf9.row (HRR.out.of_block (hda.block _ HRR.out.lt)) (HSV.out.ne HRR.out (by decide))
          have r8 := hf9.row (HR8.out.of_block (hda.block _ HR8.out.lt)) (HSV.out.ne HR8.out (by decide))
          have hm1 : WMove w0.heap.size n kb (.slice (some ⟨b, off, none⟩) n cap) pv u { u with asked := u.asked + sumL (l.take l.length) } dn dn Y Y w1 wr := (WMove.refl HA1.out HS.out HB2.out).trans HM.out
          have hsl3 : SL 3 w9 w0.heap.size (.slice ao l.length cp) (ints l) := hSr.of_block (fun q hq => by
            have hql := (hSr.lt q hq).2
            refine (hf9.block q (by have := hda.size; omega) (fun e => ?_)).trans ((hda.block q (by omega)).trans (HB8.out.block q hql))
            rcases HSV.out with ⟨e0, _⟩ | ⟨g, off', cap', sz, f, e0, _, hr', _⟩
            · rw [e0] at e; cases e
            · rw [e0] at e; cases e
              have hr3 : W8.rowIs g 78 sz f := hr'
              exact (hSr.of_block (w' := W8) (fun q hq => HB8.out.block q (hSr.lt q hq).2)).ne hr3 (by decide) hq)
          have hset : ∀ e v' l', SL e w9 w0.heap.size v' l' → e ≠ 81 → SL e (w9.setCell ⟨Y.rb, t, none⟩ v9) w0.heap.size v' l' := fun e v' l' hv' he => hv'.of_block (fun b hb => Deep.blk_setCell_other _ _ _ _ (fun e' => hv'.ne r1 (fun e => he e.symm) (by rw [← (show b = Y.rb from e')]; exact hb)))
          have hfr : Fr (fun q => q = Y.rb ∨ (Y.sv t).ownBlock = some q) wr (w9.setCell ⟨Y.rb, t, none⟩ v9) := ((((Fr.of_below _ HB8.out).then (Fr.of_below _ hda)).then (hf9.mono (fun q hq => .inr hq)))).setCell (.inl (.inl rfl)) _
          have hne8 : wr.heap.size ≠ Y.rb := fun e => row_ne HR8.out HRR.out (by decide) e
          have hpush := hm1.push (t := t) (jN := wr.heap.size) (x := ⟨u.now + jt, l, 0, [], [], -1, 0⟩) (v := v9) (Vn := fun c => if c = 0 then .slice ao l.length cp else .slice none 0 0) htk hfr
            ((r1.set t v9).congr (fun p hp => rfl)) (hset 78 _ _ hs9 (by decide)) (fun q hq => by
              rcases hn9 q hq with g | g
              · exact .inl g
              · have := hda.size
                exact .inr (by omega)) (r8.setOther (by simpa using hne8) _) (Nat.le_refl _) (fun c hc => by
              match c, hc with
              | 0, _ => exact hset 3 _ _ hsl3 (by decide)
              | 1, _ => exact .inl ⟨rfl, rfl⟩
              | 2, _ => exact .inl ⟨rfl, rfl⟩) (fun c hc q hq => by
              match c, hc, hq with
              | 0, _, hq =>
                have h1 := HVB.out q hq
                refine ⟨h1, fun hf => ?_⟩
                have hf' : footW n u dn Y q := by
                  rcases hm1.ft q hf with g | g
                  · exact g
                  · exact hf
                have := (HLO.out q hf').2
                omega
              | 1, _, hq => cases hq
              | 2, _, hq => cases hq) (fun c c' q hc hc' e1 e2 => by
              match c, hc, c', hc', e1, e2 with
              | 0, _, 0, _, _, _ => rfl
              | 0, _, 1, _, _, e2 => cases e2
              | 0, _, 2, _, _, e2 => cases e2
              | 1, _, _, _, e1, _ => cases e1
              | 2, _, _, _, e1, _ => cases e1)
          refine ⟨_, dn, _, hpush.at', hpush.sep, hpush.wb, (HK1.out.more (fun q h => .inl (.inl h))).wmove hpush HB1.out.size, HW.out.congr rfl rfl (fun a ha => rfl), HLK.out, HB1.out.trans (hpush.fr.below HB1.out.size (fun q hq => (HLO.out q hq).1)), cn_added HCN.out htk rfl rfl rfl ?_⟩
          show u.asked + sumL (l.take l.length) = u.asked + demTo ((sysOf T Z n).K t) (numOf ((sysOf T Z n).K t) ((sysOf T Z n).N t) (fun q => l.getD q 0)) ((sysOf T Z n).L t)
          rw [dem_new _ (Nat.le_of_eq HLC.out.symm), HLC.out]
        have k38 : W8.cell? ⟨Y.wb, 3, none⟩ = some (.slice (some ⟨Y.rb, 0, none⟩) n n) := HWR8.out.cell (by omega)
        have kr8 : W8.cell? ⟨Y.rb, t, none⟩ = some (Y.sv t) := HRR.out.cell htk
        have kz8 := HRR.out.frozen t
        have hwl8 := HWR8.out.lt
        have hrl8 := HRR.out.lt
        obtain ⟨i9, hi9, hz90, hz91, hz92⟩ := info_parts Tryz.info78
        have HW8 : Hid _ := hW8
        clear hr8 hb8 hA8 hW8
        clear hM hA hSr hbxr e7 e4 hsr k7 hz7
        go_wp2_with fail
        refine' (fun (key : Hid _) => ?_) ?_
        rotate_left
        · go_region_with (go_at_call 10; rw [HWR.out]; refine (HPK.out _).mono ?_; rintro e w5 ⟨rfl, rfl⟩)
          all_goals exact key.out
        rotate_left
        unfold Hid
        go_wp2_with fail
        rw [HWN.out, ← HW8.out]
        have hsv := HSV.out
        refine' (fun (key : Hid _) => ?_) ?_
        rotate_left
        · go_region_law (refine step_append_sl rfl (.tmp 85) (.tmp 87) 81 rfl 78 i9 _ Tryz.underlying81 hi9 hz90 hz91 hz92 rfl w0.heap.size (Y.sv t) (ptrs Y t (dn t) (u.runs t).length) (by simp [Act.eval]) (HSV.out.da _) HPL.out HBD.out ⟨W8.heap.size, 0, none⟩ 1 (.pointer (some ⟨wr.heap.size, 0, none⟩)) (by simp [Act.eval]) (cell_da W8 _ 78) rfl ?_; intro v9 w9 hs9 hf9 hn9; obtain ⟨⟨ao9, ln9, cp9, hv9⟩, k39, kr9, kz9, hwl9, hrl9⟩ := HAPP.out v9 w9 hs9 hf9; subst hv9)
          all_goals
            have h9 : Hid (SL 78 w9 w0.heap.size (.slice ao9 ln9 cp9) (ptrs Y t (dn t) (u.runs t).length ++ [.pointer (some ⟨wr.heap.size, 0, none⟩)]) ∧ Fr (fun q => (Y.sv t).ownBlock = some q) (W8.drew.alloc (.cells #[.pointer (some ⟨wr.heap.size, 0, none⟩)] 78)) w9 ∧ ∀ b, (Value.slice ao9 ln9 cp9).ownBlock = some b → (Y.sv t).ownBlock = some b ∨ (W8.drew.alloc (.cells #[.pointer (some ⟨wr.heap.size, 0, none⟩)] 78)).heap.size ≤ b) := ⟨hs9, hf9, hn9⟩
            clear hs9 hf9 hn9 k39 kr9 kz9 hwl9 hrl9
            revert w9 ao9 ln9 cp9
            exact key.out
        rotate_left
        intro w9 ao9 ln9 cp9 h9
        go_wp2
        go_end0
        refine ⟨rfl, ?_⟩
        rw [HTK.out, HJT0.out, HLST.out]
        exact HEND.out _ _ h9.out.1 h9.out.2.1 h9.out.2.2

end Go.Proofs.YtdabcflpcklfiaaGreat
