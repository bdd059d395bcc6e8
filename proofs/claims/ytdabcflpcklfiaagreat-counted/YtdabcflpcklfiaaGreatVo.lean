import Derived.Test.YtdabcflpcklfiaaGreatVr
/- The law's tick, walked. -/
namespace Go.Proofs.YtdabcflpcklfiaaGreat
open Go.RowKit Cad

set_option maxRecDepth 100000 in
set_option maxHeartbeats 16000000 in
theorem tickW_any {n kb wb b off cap pb po pc : Nat} {T : TD} {Z : Nat → Int} {m : Mc} {w0 w : World} (hG : Good T n) (hP : PrioB Z n) (hb : b < w0.heap.size) (hpb : pb < w0.heap.size) (hT : TasksAt w0 b off n T) (hZ : IntsAt w0 pb po n Z)
    (h : WSt w0 w n kb wb (.slice (some ⟨b, off, none⟩) n cap) (.slice (some ⟨pb, po, none⟩) n pc) (sysOf T Z n) m) (hnow : m.now < 1000000000000000000) :
    Calls Tryz.prog 11 #[.pointer (some ⟨wb, 0, none⟩)] w fun e w' => e = .returned (.bool true) ∧ WSt w0 w' n kb wb (.slice (some ⟨b, off, none⟩) n cap) (.slice (some ⟨pb, po, none⟩) n pc) (sysOf T Z n) (tick (sysOf T Z n) m).1 := by
  obtain ⟨u, dn, Y, hA, hS, rfl, hK, hI, hL, hB, hC⟩ := h
  have hn8 := hG.eight
  have ho := hK.ok
  have hso := syok_of hG hP
  have hwl := hA.wrow.lt
  obtain ⟨c0, _⟩ := hA.wc
  have HTK : Hid (Calls Tryz.prog 28 #[.pointer (some ⟨kb, 0, none⟩)] w fun e w' => e = .returned (.tuple #[.int .i64 (tick (sysOf T Z n) m).2.1, .bool (tick (sysOf T Z n) m).2.2]) ∧ KSt (fun q => q < w0.heap.size ∨ footW n u dn Y q) w' kb (sysOf T Z n) (tick (sysOf T Z n) m).1 ∧ Fr (fun q => ¬ (q < w0.heap.size ∨ footW n u dn Y q)) w w') :=
    kst_tick (fun q hq => by
      rcases hq with g | g
      · have := hB.size; omega
      · exact (hA.foot_lt g).2) hK hnow
  have HA : Hid (WAt w w0.heap.size n kb (.slice (some ⟨b, off, none⟩) n cap) (.slice (some ⟨pb, po, none⟩) n pc) u dn Y) := hA
  have HS : Hid (WSep n u dn Y) := hS
  have HI : Hid (WI (sysOf T Z n) m u) := hI
  have HL : Hid (LkInv (sysOf T Z n) m) := hL
  have HB : Hid (Below w0.heap.size w0 w) := hB
  have HCN : Hid (CN (sysOf T Z n) m u) := hC
  have HO : Hid (Ok (sysOf T Z n) m) := ho
  have HSO : Hid (SyOk (sysOf T Z n)) := hso
  have HG : Hid (Good T n) := hG
  have HP : Hid (PrioB Z n) := hP
  have HT : Hid (TasksAt w0 b off n T) := hT
  have HZ : Hid (IntsAt w0 pb po n Z) := hZ
  have HTC := tick_cases (sysOf T Z n) m
  clear hA hS hI hL hB hC hK ho hso hG hP hT hZ
  go_enter Tryz.func11, Tryz.ntmps11
  go_wp2_with fail
  refine (HTK.out).mono ?_
  rintro e w5 ⟨rfl, hK5, hF5⟩
  obtain ⟨hA5, hB5⟩ := HA.out.kernel HB.out hF5
  have HA5 : Hid (WAt w5 w0.heap.size n kb (.slice (some ⟨b, off, none⟩) n cap) (.slice (some ⟨pb, po, none⟩) n pc) u dn Y) := hA5
  have HK5 : Hid (KSt (fun q => q < w0.heap.size ∨ footW n u dn Y q) w5 kb (sysOf T Z n) (tick (sysOf T Z n) m).1) := hK5
  have HB5 : Hid (Below w0.heap.size w0 w5) := hB5
  have hwl5 := hA5.wrow.lt
  have HL8 : Hid (∀ t, t < n → (u.runs t).length ≤ 8) := HI.out.eight HO.out
  clear hK5 hF5 hA5 hB5 HTK c0 hwl
  -- the two ways
  rcases HTC with ⟨hch, htk⟩ | ⟨t, j, lq, ht, hq, hrel, hch, htk⟩
  · -- nobody
    have HNO : Hid (∀ a, a < n → fstP u dn Y a = none) := by
      intro a ha
      exact fst_none HI.out ha (none_ready HO.out hch ha)
    have e1 : (tick (sysOf T Z n) m).2.1 = -1 := by rw [htk]
    have e2 : (tick (sysOf T Z n) m).2.2 = false := by rw [htk]
    rw [e1, e2]
    have HTKE : Hid ((tick (sysOf T Z n) m).1 = { m with now := m.now + 1, idle := m.idle + 1 }) := by unfold Hid; rw [htk]
    clear e1 e2 htk hch
    go_wp2_with fail
    go_loopw [5, 6] (fun wv iv wr => ∃ k : Nat, k ≤ n ∧ wv = .bool false ∧ iv = .int .i64 k ∧ Below w5.heap.size w5 wr) (fun _ iv _ => n - (intOf iv).toNat)
    case atStart => exact ⟨0, Nat.zero_le _, rfl, rfl, Below.refl _ _⟩
    case round =>
      obtain ⟨k, hk, rfl, rfl, hbel⟩ := hrel
      have HBr : Hid (Below w5.heap.size w5 wr) := hbel
      have hAr := HA5.out.below hbel
      obtain ⟨_, _, _, c3, c4, c5, _⟩ := hAr.wc
      have hz4 := hAr.wrow.frozen 4
      have hz5 := hAr.wrow.frozen 5
      have hwlr := hAr.wrow.lt
      have hrl := hAr.rrow.lt
      by_cases hlt : k < n
      · have HFS : Hid (Calls Tryz.prog 29 #[.pointer (some ⟨Y.wb, 0, none⟩), .int .i64 k] wr fun e w' => e = .returned (.pointer none) ∧ Below wr.heap.size wr w') := by
          have g := first_run hAr hn8 hlt (HL8.out k hlt)
          rw [HNO.out k hlt] at g
          exact g
        clear hAr hbel c4 c5 hz4 hz5
        go_wp2_with fail
        refine (HFS.out).mono ?_
        rintro e w6 ⟨rfl, hb6⟩
        have HB6 : Hid (Below w5.heap.size w5 w6) := HBr.out.trans (hb6.mono HBr.out.size)
        clear hb6 HFS c3
        go_wp2
        go_roundw
        case rel => exact ⟨k + 1, by omega, rfl, by go_num, HB6.out⟩
        case measure => simp [intOf]; omega
      · obtain rfl : k = n := by omega
        have hn0 : 0 ≤ u.now := by rw [HI.out.now]; exact HO.out.now0
        have hn1 : u.now < 1000000000000000000 := by rw [HI.out.now]; exact hnow
        have hi0 : 0 ≤ u.idle := by rw [HI.out.idle]; exact HO.out.idle.1
        have hi1 : u.idle ≤ u.now := by rw [HI.out.idle, HI.out.now]; exact HO.out.idle.2
        clear hAr hbel
        go_wp2
        go_ret
        refine ⟨rfl, widle u, dn, Y, ?_⟩
        have m1 := (HA5.out.below HBr.out).moveNow HS.out (u.now + 1)
        have m2 := m1.trans (m1.at'.moveIdle m1.sep (u.idle + 1))
        have m3 := (WMove.refl HA5.out HS.out HBr.out).trans m2
        refine ⟨m3.at', m3.sep, rfl, HK5.out.wmove m3 HB5.out.size, ?_, lk_tick HSO.out HO.out HL.out, HB5.out.trans (m3.fr.below HB5.out.size (fun i hi => (HA5.out.foot_lt hi).1)), ?_⟩
        · rw [HTKE.out]
          exact wi_idle HI.out
        · rw [HTKE.out]
          exact cn_idle HCN.out rfl rfl rfl rfl
  · -- task t
    have ht' : t < n := ht
    obtain ⟨x, l, hx, hjw, hll⟩ := HI.out.head ht hq
    have hjo := (HO.out.job t ht j (by rw [hq]; simp)).1
    have hrd : readyB m t = true := by unfold readyB; rw [hq]; exact decide_eq_true hrel
    obtain ⟨x', l', hx', hxr⟩ := (HI.out.ready ht).1 hrd
    rw [hx] at hx'
    cases hx'
    obtain ⟨hW, hdn⟩ := wi_tick HSO.out HO.out HL.out HI.out hch ht hq hx
    obtain ⟨p1, p2, p3, p4⟩ := place1 hjo
    obtain ⟨g1, g2, g3, g4⟩ := goes_held (now := u.now) (HSO.out.prog t ht) hjo hjw
    have hL16 := (HO.out.len t ht).2
    have hst := st_len _ hjw.held
    have hst2 := st_len _ g1
    have hcomp := hjo.comp _ p1 p2 p3
    have hstep := hjw.step
    have e1 : (tick (sysOf T Z n) m).2.1 = (t : Int) := by rw [htk]
    have e2 : (tick (sysOf T Z n) m).2.2 = decide ((endW (sysOf T Z n) t (goesW (sysOf T Z n) t u.now x)).left = []) := by rw [htk]; exact hdn
    have HW : Hid (WI (sysOf T Z n) (tick (sysOf T Z n) m).1 (wtick (sysOf T Z n) u t x l)) := by unfold Hid; rw [htk]; exact hW
    have HCT0 : Hid (∀ u' : Wt, u'.now = u.now + 1 → u'.idle = u.idle → u'.given = wrap64 (u.given + 1) → u'.asked = u.asked → CN (sysOf T Z n) (tick (sysOf T Z n) m).1 u') := by
      intro u' h1 h2 h3 h4
      have hg := HCN.out.given
      have hn0 : 0 ≤ u.idle ∧ u.idle ≤ u.now := by rw [HI.out.idle, HI.out.now]; exact HO.out.idle
      have hn1 : u.now < 1000000000000000000 := by rw [HI.out.now]; exact hnow
      have hw : wrap64 (u.given + 1) = u.given + 1 := by unfold wrap64; omega
      rw [htk]
      exact cn_tick HO.out HCN.out ht hq h1 h2 (h3.trans hw) h4
    rw [e1, e2]
    have HX : Hid (u.runs t = x :: l) := hx
    have HGO : Hid (∀ wr, Below w5.heap.size w5 wr → Calls Tryz.prog 30 #[.pointer (some ⟨Y.wb, 0, none⟩), .pointer (some ⟨Y.jb t (dn t), 0, none⟩)] wr fun e w' => e = .returned (.bool true) ∧ ∃ Y', Y'.jb = Y.jb ∧ WMove w0.heap.size n kb (.slice (some ⟨b, off, none⟩) n cap) (.slice (some ⟨pb, po, none⟩) n pc) u (setR u t 0 (goesW (sysOf T Z n) t u.now x)) dn dn Y Y' wr w') := by
      intro wr hbr
      refine goes_any (HA5.out.below hbr) HS.out HG.out hb HT.out (HB5.out.trans (hbr.mono HB5.out.size)) ht hx HL8.out (HI.out.held16 HO.out) hjw.len (fun d hd => ?_) ?_ (fun d hd => ?_)
      · have q2 : skip (T.K t) 2 (T.L t) x.step < T.L t := by rw [hstep]; exact p2
        have q3 : T.L t ≤ 16 := hL16
        omega
      · rw [hstep]
        exact ⟨p1, p2, p3, p4⟩
      · exact free_ok HSO.out HO.out HL.out HI.out hch ht hx hd
    have HFA : Hid (∀ wr Y1, Y1.jb = Y.jb → Y1.wb = Y.wb → WMove w0.heap.size n kb (.slice (some ⟨b, off, none⟩) n cap) (.slice (some ⟨pb, po, none⟩) n pc) u (setR u t 0 (goesW (sysOf T Z n) t u.now x)) dn dn Y Y1 w5 wr → Calls Tryz.prog 31 #[.pointer (some ⟨Y.wb, 0, none⟩), .pointer (some ⟨Y.jb t (dn t), 0, none⟩)] wr fun e w' => e = .returned (.bool true) ∧ ∃ Y', Y'.jb = Y.jb ∧ WMove w0.heap.size n kb (.slice (some ⟨b, off, none⟩) n cap) (.slice (some ⟨pb, po, none⟩) n pc) u (fairTo (sysOf T Z n) (setR u t 0 (goesW (sysOf T Z n) t u.now x)) t (goesW (sysOf T Z n) t u.now x) n) dn dn Y Y' w5 w') := by
      intro wr Y1 hj1 hw1 hm
      have hx1 : (setR u t 0 (goesW (sysOf T Z n) t u.now x)).runs t = goesW (sysOf T Z n) t u.now x :: l := setR_head hx
      have h16x : (goesW (sysOf T Z n) t u.now x).held.length ≤ 16 := by
        have q2 : skip (T.K t) 2 (T.L t) j.p < T.L t := p2
        have q3 : T.L t ≤ 16 := hL16
        have q4 : (goesW (sysOf T Z n) t u.now x).held.length ≤ skip (T.K t) 2 (T.L t) j.p := hst2
        omega
      have hlkx : ∀ r ∈ (goesW (sysOf T Z n) t u.now x).held, 0 ≤ r ∧ ∃ t, t < n ∧ Locks (T.K t) (T.N t) (T.L t) r := by
        intro r hr
        obtain ⟨k, k1, k2, k3⟩ := st_mem _ g1 hr
        exact ⟨((prog_inv _ _ _ _ g1).rng r hr).1, t, ht, k, Nat.lt_trans k1 p2, k2, k3⟩
      have g := fair_any hm.at' hm.sep HG.out HP.out hb hpb HT.out HZ.out (HB5.out.trans (hm.fr.below HB5.out.size (fun i hi => (HA5.out.foot_lt hi).1))) ht hx1 (fun a ha => by rw [setR_len]; exact HL8.out a ha) g2 h16x hlkx (by
        intro a y l' ha hy hry hz
        have hne : a ≠ t := fun e => by subst e; omega
        rw [setR_other hne] at hy
        obtain ⟨_, f2, f3, f4, f5⟩ := fair_ok HSO.out HO.out HL.out HI.out hch ht hx ha hy hry hz
        have f2' : sectOf (sysOf T Z n).C (Z a) (goesW (sysOf T Z n) t u.now x).held (goesW (sysOf T Z n) t u.now x).since = sectOf (sysOf T Z n).C (Z a) x.held x.since := f2
        rw [f2']
        exact ⟨f3, f4, f5⟩)
      rw [hj1, hw1] at g
      refine g.mono ?_
      rintro e w' ⟨he, Y', hY', hm'⟩
      exact ⟨he, Y', hY', hm.trans hm'⟩
    have HFS : Hid (∀ wr, Below w5.heap.size w5 wr → Calls Tryz.prog 29 #[.pointer (some ⟨Y.wb, 0, none⟩), .int .i64 t] wr fun e w' => e = .returned (.pointer (some ⟨Y.jb t (dn t), 0, none⟩)) ∧ Below wr.heap.size wr w') := by
      intro wr hbr
      have g := first_run (HA5.out.below hbr) hn8 ht' (HL8.out t ht')
      rw [fst_some hx hxr] at g
      exact g
    have HG4 : Hid ((goesW (sysOf T Z n) t u.now x).left = j.N (skip (T.K t) 2 (T.L t) j.p) :: cmpsFrom (T.K t) j.N (T.L t) (skip (T.K t) 2 (T.L t) j.p + 1)) := g4
    have HG1 : Hid (stTo (T.K t) (T.N t) (skip (T.K t) 2 (T.L t) j.p) = some (goesW (sysOf T Z n) t u.now x).held) := g1
    have HG2 : Hid ((goesW (sysOf T Z n) t u.now x).since.length = (goesW (sysOf T Z n) t u.now x).held.length) := g2
    have HG3 : Hid ((goesW (sysOf T Z n) t u.now x).step = skip (T.K t) 2 (T.L t) j.p) := g3
    have hcomp' : 1 ≤ j.N (skip (T.K t) 2 (T.L t) j.p) ∧ j.N (skip (T.K t) 2 (T.L t) j.p) ≤ 100 := hcomp
    have hqL : skip (T.K t) 2 (T.L t) j.p < T.L t := p2
    have HKQ : Hid (T.K t (skip (T.K t) 2 (T.L t) j.p) = 1) := p3
    have hqL16 : T.L t ≤ 16 := hL16
    clear hx hjw hjo hrd hxr hW hdn p1 p2 p3 p4 g1 g2 g3 g4 hL16 hst hst2 hcomp hstep e1 e2 htk hq hrel hch hll ht
    obtain ⟨xg, hxg⟩ : ∃ xg, xg = goesW (sysOf T Z n) t u.now x := ⟨_, rfl⟩
    have HXG : Hid (xg = goesW (sysOf T Z n) t u.now x) := hxg
    rw [← hxg] at HGO HFA HG4 HG1 HG2 HG3 ⊢
    clear hxg
    obtain ⟨dnv, hdnv⟩ : ∃ dnv, dnv = decide ((endW (sysOf T Z n) t xg).left = []) := ⟨_, rfl⟩
    have HDN : Hid (dnv = decide ((endW (sysOf T Z n) t xg).left = [])) := hdnv
    rw [← hdnv]
    clear hdnv
    obtain ⟨q, hqe⟩ : ∃ q, q = skip (T.K t) 2 (T.L t) j.p := ⟨_, rfl⟩
    rw [← hqe] at HG4 HG1 HG3 hcomp' hqL HKQ
    obtain ⟨a, hae⟩ : ∃ a, a = j.N q := ⟨_, rfl⟩
    rw [← hae] at HG4 hcomp'
    clear hqe hae
    obtain ⟨r, hre⟩ : ∃ r, r = cmpsFrom (T.K t) j.N (T.L t) (q + 1) := ⟨_, rfl⟩
    rw [← hre] at HG4
    have HR : Hid (r = cmpsFrom (T.K t) j.N (T.L t) (q + 1)) := hre
    clear hre
    go_wp2_with fail
    go_loopw [5, 6] (fun wv iv wr => ∃ (k : Nat) (bw : Bool), k ≤ n ∧ wv = .bool bw ∧ iv = .int .i64 k ∧ Below w5.heap.size w5 wr) (fun _ iv _ => n - (intOf iv).toNat)
    case atStart => exact ⟨0, false, Nat.zero_le _, rfl, rfl, Below.refl _ _⟩
    case round =>
      obtain ⟨k, bw, hk, rfl, rfl, hbel⟩ := hrel
      have HBr : Hid (Below w5.heap.size w5 wr) := hbel
      have hAr := HA5.out.below hbel
      obtain ⟨_, _, _, c3, c4, c5, _⟩ := hAr.wc
      have hwlr := hAr.wrow.lt
      have hrl := hAr.rrow.lt
      by_cases hlt : k < n
      · have HFK : Hid (Calls Tryz.prog 29 #[.pointer (some ⟨Y.wb, 0, none⟩), .int .i64 k] wr fun e w' => e = .returned (.pointer (fstP u dn Y k)) ∧ Below wr.heap.size wr w') := first_run hAr hn8 hlt (HL8.out k hlt)
        generalize fstP u dn Y k = fp at *
        clear hAr hbel c4 c5
        cases bw with
        | false =>
          go_wp2_with fail
          refine (HFK.out).mono ?_
          rintro e w6 ⟨rfl, hb6⟩
          have HB6 : Hid (Below w5.heap.size w5 w6) := HBr.out.trans (hb6.mono HBr.out.size)
          clear hb6 HFK c3
          cases fp with
          | none =>
            go_wp2
            go_roundw
            case rel => exact ⟨k + 1, _, by omega, rfl, by go_num, HB6.out⟩
            case measure => simp [intOf]; omega
          | some ad =>
            go_wp2
            go_roundw
            case rel => exact ⟨k + 1, _, by omega, rfl, by go_num, HB6.out⟩
            case measure => simp [intOf]; omega
        | true =>
          go_wp2
          go_roundw
          case rel => exact ⟨k + 1, _, by omega, rfl, by go_num, HBr.out⟩
          case measure => simp [intOf]; omega
      · obtain rfl : n = k := by omega
        have c1 := hAr.wc.2.1
        clear hAr hbel
        go_wp2_with fail
        refine (HFS.out _ HBr.out).mono ?_
        rintro e w6 ⟨rfl, hb6⟩
        have HB6 : Hid (Below w5.heap.size w5 w6) := HBr.out.trans (hb6.mono HBr.out.size)
        clear hb6 c1 c3 c4 c5 HBr hwlr hrl
        go_wp2_with fail
        refine (HFS.out _ HB6.out).mono ?_
        rintro e w7 ⟨rfl, hb7⟩
        have HB7 : Hid (Below w5.heap.size w5 w7) := HB6.out.trans (hb7.mono HB6.out.size)
        clear hb7 HB6 HFS
        go_wp2_with fail
        refine (HGO.out _ HB7.out).mono ?_
        rintro e w8 ⟨rfl, Y8, hY8, hM8⟩
        have HM8 : Hid (WMove w0.heap.size n kb (.slice (some ⟨b, off, none⟩) n cap) (.slice (some ⟨pb, po, none⟩) n pc) u (setR u t 0 xg) dn dn Y Y8 w5 w8) := (WMove.refl HA5.out HS.out HB7.out).trans hM8
        have hw8 := hM8.wb
        clear hM8 HGO HB7
        go_wp2_with fail
        refine (HFA.out _ Y8 hY8 hw8 HM8.out).mono ?_
        rintro e w9 ⟨rfl, Y9, hY9, hM9⟩
        have HM9 : Hid (WMove w0.heap.size n kb (.slice (some ⟨b, off, none⟩) n cap) (.slice (some ⟨pb, po, none⟩) n pc) u (fairTo (sysOf T Z n) (setR u t 0 xg) t xg n) dn dn Y Y9 w5 w9) := hM9
        have hw9 := hM9.wb
        clear HFA HM8 hw8 hY8
        have hA9 := hM9.at'
        have hx9 : ((fairTo (sysOf T Z n) (setR u t 0 xg) t xg n).runs t)[0]? = some xg := by rw [fairTo_self, setR_head HX.out]; rfl
        have hj9 := hA9.jrow t ht' 0 xg hx9
        have hi9 := hA9.irow t ht' 0 xg hx9 0 (by omega)
        simp only [Nat.add_zero] at hj9 hi9
        rw [hY9] at hj9
        obtain ⟨_, k1, _, k3, k4, _, k6, _⟩ := hA9.wc
        rw [hw9] at k1 k3 k4 k6
        have hwr9 := hA9.wrow
        rw [hw9] at hwr9
        have z4 := hwr9.frozen 4
        have z6 := hwr9.frozen 6
        have hwl9 := hwr9.lt
        have j2 : w9.cell? ⟨Y.jb t (dn t), 2, none⟩ = some (Y9.V 0 t (dn t)) := hj9.cell (by omega)
        have hjl9 := hj9.lt
        have hls : lst xg 0 = a :: r := HG4.out
        rw [hls] at hi9
        have hi9' : SL 3 w9 w0.heap.size (Y9.V 0 t (dn t)) (.int .i64 a :: ints r) := hi9
        obtain ⟨g, o, cp, hV, hgB, hcp⟩ := hi9'.isSl
        rw [ints_len] at hV hcp
        have hVs := hi9'
        rw [hV] at hVs
        obtain ⟨l0, zl0⟩ := hVs.cell (i := 0) (x := .int .i64 a) rfl
        rw [Nat.add_zero] at l0 zl0
        have hgl : g < w9.heap.size := (hi9'.lt g (by rw [hV]; rfl)).2
        have ngw : g ≠ Y.wb := fun e => hi9'.ne hwr9 (by decide) (by rw [hV, e]; rfl)
        have ngj : g ≠ Y.jb t (dn t) := fun e => hi9'.ne hj9 (by decide) (by rw [hV, e]; rfl)
        have nwj : Y.wb ≠ Y.jb t (dn t) := row_ne hwr9 hj9 (by decide)
        have HV9 : Hid (Y9.V 0 t (dn t) = .slice (some ⟨g, o, none⟩) (r.length + 1) cp) := hV
        rw [hV] at j2
        have hnn : (fairTo (sysOf T Z n) (setR u t 0 xg) t xg n).now = u.now := rfl
        have hgg : (fairTo (sysOf T Z n) (setR u t 0 xg) t xg n).given = u.given := rfl
        rw [hnn] at k4
        rw [hgg] at k6
        have hn0 : 0 ≤ u.now := by rw [HI.out.now]; exact HO.out.now0
        have hn1 : u.now < 1000000000000000000 := by rw [HI.out.now]; exact hnow
        clear hM9 hA9 hj9 hi9 hi9' hwr9 hVs hV hls hnn hgg
        have HW3 : Hid (∀ y gv, WMove w0.heap.size n kb (.slice (some ⟨b, off, none⟩) n cap) (.slice (some ⟨pb, po, none⟩) n pc) u { fairTo (sysOf T Z n) (setR u t 0 xg) t xg n with now := y, given := gv } dn dn Y Y9 w5 ((w9.setCell ⟨Y.wb, 4, none⟩ (.int .i64 y)).setCell ⟨Y.wb, 6, none⟩ (.int .i64 gv))) := by
          intro y gv
          have m1 := HM9.out.at'.moveNow HM9.out.sep y
          have m2 := m1.trans (m1.at'.moveGiven m1.sep gv)
          rw [hw9] at m2
          exact HM9.out.trans m2
        have HW4 : Hid (∀ y gv, WMove w0.heap.size n kb (.slice (some ⟨b, off, none⟩) n cap) (.slice (some ⟨pb, po, none⟩) n pc) u (setR { fairTo (sysOf T Z n) (setR u t 0 xg) t xg n with now := y, given := gv } t 0 { xg with left := (a - 1) :: r }) dn dn Y (setY Y9 t (dn t + 0) (fun c => Y9.V c t (dn t + 0))) w5 (((w9.setCell ⟨Y.wb, 4, none⟩ (.int .i64 y)).setCell ⟨Y.wb, 6, none⟩ (.int .i64 gv)).setCell ⟨g, o, none⟩ (.int .i64 (a - 1)))) := by
          intro y gv
          have m1 := HW3.out y gv
          have m2 := m1.trans (m1.at'.setIn m1.sep ht' (x := xg) (by show ((fairTo (sysOf T Z n) (setR u t 0 xg) t xg n).runs t)[0]? = some xg; rw [fairTo_self, setR_head HX.out]; rfl) (g := g) (off := o) (k := r.length + 1) (cap := cp) HV9.out (a - 1))
          have e : xg.left.set 0 (a - 1) = (a - 1) :: r := by rw [HG4.out]; rfl
          rw [e] at m2
          exact m2
        -- what the end is
        have HFIN : Hid (∀ (u' : Wt) (dn' : Nat → Nat) (Y' : WL) (w' : World), WMove w0.heap.size n kb (.slice (some ⟨b, off, none⟩) n cap) (.slice (some ⟨pb, po, none⟩) n pc) u u' dn dn' Y Y' w5 w' → u'.now = u.now + 1 → u'.idle = u.idle → u'.given = wrap64 (u.given + 1) → u'.asked = u.asked → (∀ a, a < n → u'.runs a = (wtick (sysOf T Z n) u t x l).runs a) → WSt w0 w' n kb Y.wb (.slice (some ⟨b, off, none⟩) n cap) (.slice (some ⟨pb, po, none⟩) n pc) (sysOf T Z n) (tick (sysOf T Z n) m).1) := by
          intro u' dn' Y' w' hm h1 h2 hg ha h3
          exact ⟨u', dn', Y', hm.at', hm.sep, hm.wb, HK5.out.wmove hm HB5.out.size, HW.out.congr h1 h2 h3, lk_tick HSO.out HO.out HL.out, HB5.out.trans (hm.fr.below HB5.out.size (fun i hi => (HA5.out.foot_lt hi).1)), HCT0.out u' h1 h2 hg ha⟩
        have HRN : Hid (∀ (y gv : Int) (xe : Wr) (c : Nat), c < n → (setR { fairTo (sysOf T Z n) (setR u t 0 xg) t xg n with now := y, given := gv } t 0 xe).runs c = if c = t then xe :: l else fairW (sysOf T Z n) u.now t xg c (u.runs c)) := by
          intro y gv xe c hc
          by_cases e : c = t
          · subst e
            rw [if_pos rfl]
            refine setR_head (x := xg) ?_
            show (fairTo (sysOf T Z n) (setR u c 0 xg) c xg n).runs c = _
            rw [fairTo_self, setR_head HX.out]
          · rw [if_neg e, setR_other e]
            show (if c < n then fairW (sysOf T Z n) u.now t xg c ((setR u t 0 xg).runs c) else _) = _
            rw [if_pos hc, setR_other e]
        have HB9 : Hid (Below w0.heap.size w0 w9) := HB5.out.trans (HM9.out.fr.below HB5.out.size (fun i hi => (HA5.out.foot_lt hi).1))
        have hwb0 : w0.heap.size ≤ Y.wb := HA5.out.lo.1
        have hjb0 : w0.heap.size ≤ Y.jb t (dn t) := by
          have := HA5.out.lo.2.2 t ht' 0 (by rw [HX.out]; simp)
          rwa [Nat.add_zero] at this
        clear HW3
        by_cases ha1 : a = 1
        · subst ha1
          have hj3 : w9.cell? ⟨Y.jb t (dn t), 3, none⟩ = some (.int .i64 (q : Nat)) := by
            have hr9 := HM9.out.at'.jrow t ht' 0 xg (by rw [fairTo_self, setR_head HX.out]; rfl)
            simp only [Nat.add_zero] at hr9
            rw [hY9] at hr9
            rw [← HG3.out]
            exact hr9.cell (by omega)
          have hz23 : w9.frozen? ⟨Y.jb t (dn t), 2, none⟩ = false ∧ w9.frozen? ⟨Y.jb t (dn t), 3, none⟩ = false := by
            have hr9 := HM9.out.at'.jrow t ht' 0 xg (by rw [fairTo_self, setR_head HX.out]; rfl)
            simp only [Nat.add_zero] at hr9
            rw [hY9] at hr9
            exact ⟨hr9.frozen 2, hr9.frozen 3⟩
          obtain ⟨hz2, hz3⟩ := hz23
          obtain ⟨hl1, _⟩ := progB_inv (HG.out.prog t ht')
          obtain ⟨_, _, _, t3, tp⟩ := TasksAt.below HT.out hb HB9.out t ht'
          obtain ⟨sb, so, hAd, hsb, hstp⟩ := tp.2 hl1
          rw [hAd] at t3
          have HPG : Hid (∀ w', Below w0.heap.size w0 w' → sb < w'.heap.size ∧ ∀ k, k < T.L t → w'.cell? ⟨sb, so + k * 2, none⟩ = some (.int .i64 (T.K t k)) ∧ w'.cell? ⟨sb, so + k * 2 + 1, none⟩ = some (.int .i64 (T.N t k))) := by
            intro w' hb'
            obtain ⟨_, _, _, _, tp'⟩ := TasksAt.below HT.out hb hb' t ht'
            obtain ⟨sb', so', hA', hsb', hst'⟩ := tp'.2 hl1
            rw [hAd] at hA'
            cases hA'
            exact ⟨hsb', hst'⟩
          have nbw : b ≠ Y.wb := by omega
          have nbg : b ≠ g := by omega
          have nbj : b ≠ Y.jb t (dn t) := by omega
          have ngw' := ngw.symm
          have ngj' := ngj.symm
          have nwj' := nwj.symm
          have hb9 : b < w9.heap.size := by have := HB9.out.size; omega
          clear tp hstp hAd
          have HW6 : Hid (∀ y gv v', (v' = .slice (some ⟨g, o, none⟩) r.length 0 ∧ cp = 1) ∨ (v' = .slice (some ⟨g, o + 1, none⟩) r.length (cp - 1) ∧ cp ≠ 1) → ∃ Y' : WL, Y'.jb = Y.jb ∧ WMove w0.heap.size n kb (.slice (some ⟨b, off, none⟩) n cap) (.slice (some ⟨pb, po, none⟩) n pc) u (setR { fairTo (sysOf T Z n) (setR u t 0 xg) t xg n with now := y, given := gv } t 0 (cuts xg r (q + 1) 0)) dn dn Y Y' w5 (((((w9.setCell ⟨Y.wb, 4, none⟩ (.int .i64 y)).setCell ⟨Y.wb, 6, none⟩ (.int .i64 gv)).setCell ⟨g, o, none⟩ (.int .i64 0)).setCell ⟨Y.jb t (dn t), 2, none⟩ v').setCell ⟨Y.jb t (dn t), 3, none⟩ (.int .i64 (q + 1)))) := by
            intro y gv v' hv'
            have m1 := HW4.out y gv
            have e0 : ((1 : Int) - 1) = 0 := rfl
            rw [e0] at m1
            have hx1 : ∀ z, ((setR { fairTo (sysOf T Z n) (setR u t 0 xg) t xg n with now := y, given := gv } t 0 z).runs t)[0]? = some z := by
              intro z
              rw [HRN.out y gv z t ht', if_pos rfl]
              rfl
            have hi := m1.at'.irow t ht' 0 _ (hx1 _) 0 (by omega)
            have eV : (setY Y9 t (dn t + 0) (fun c => Y9.V c t (dn t + 0))).V 0 t (dn t + 0) = .slice (some ⟨g, o, none⟩) (r.length + 1) cp := by
              rw [← HV9.out]
              exact if_pos ⟨rfl, rfl⟩
            rw [eV] at hi
            have hi' : SL 3 (((w9.setCell ⟨Y.wb, 4, none⟩ (.int .i64 y)).setCell ⟨Y.wb, 6, none⟩ (.int .i64 gv)).setCell ⟨g, o, none⟩ (.int .i64 0)) w0.heap.size (.slice (some ⟨g, o, none⟩) ((ints r).length + 1) cp) (.int .i64 0 :: ints r) := by rw [ints_len]; exact hi
            have ht0 := hi'.tail
            rw [ints_len] at ht0
            have hvt : SL 3 (((w9.setCell ⟨Y.wb, 4, none⟩ (.int .i64 y)).setCell ⟨Y.wb, 6, none⟩ (.int .i64 gv)).setCell ⟨g, o, none⟩ (.int .i64 0)) w0.heap.size v' (ints r) ∧ v'.ownBlock = some g := by
              rcases hv' with ⟨rfl, h1⟩ | ⟨rfl, h1⟩
              · rw [if_pos h1, show cp - 1 = 0 by omega] at ht0; exact ⟨ht0, rfl⟩
              · rw [if_neg h1] at ht0; exact ⟨ht0, rfl⟩
            have m2 := m1.trans (m1.at'.setLeft m1.sep ht' (hx1 _) hvt.1 (fun b hb => by rw [eV]; rw [hvt.2] at hb; cases hb; rfl))
            rw [setR_twice] at m2
            have m3 := m2.trans (m2.at'.setStep m2.sep ht' (hx1 _) (q + 1))
            rw [setR_twice] at m3
            rw [cuts_zero]
            have ej : ∀ k, (setY Y9 t (dn t + 0) (fun c => Y9.V c t (dn t + 0))).jb t k = Y.jb t k := fun k => by show Y9.jb t k = _; rw [hY9]
            have ej2 : ∀ V k, (setY (setY Y9 t (dn t + 0) (fun c => Y9.V c t (dn t + 0))) t (dn t + 0) V).jb t k = Y.jb t k := fun V k => by show Y9.jb t k = _; rw [hY9]
            rw [ej] at m3
            have m4 := m3
            rw [ej2] at m4
            exact ⟨_, by exact hY9, m4⟩
          have HE : Hid (∃ e, e = skip (T.K t) 3 (T.L t) (q + 1) ∧ q + 1 ≤ e ∧ e ≤ T.L t ∧ (∀ i, q + 1 ≤ i → i < e → T.K t i = 3) ∧ (e < T.L t → T.K t e ≠ 3)) := by
            obtain ⟨h1, h2, h3, h4⟩ := skip_spec (T.K t) 3 (L := T.L t) (p := q + 1) (by omega)
            exact ⟨_, rfl, h1, h2, h3, h4⟩
          obtain ⟨e, he, he1, he2, he3, he4⟩ := HE.out
          have HEE : Hid (e = skip (T.K t) 3 (T.L t) (q + 1)) := he
          have HE3 : Hid (∀ i, q + 1 ≤ i → i < e → T.K t i = 3) := he3
          have HUN : Hid (∀ d, q + 1 + d ≤ e → d ≤ xg.held.length) := by
            intro d hd
            have hp := HG.out.prog t ht'
            have hh : stTo (T.K t) (T.N t) (q + 1) = some xg.held := by
              obtain ⟨s, hs⟩ := st_some hp (e := q + 1) (by omega)
              have e1 : stTo (T.K t) (T.N t) (q + 1) = Cad.stepF xg.held (prevLock (T.K t) q) (T.K t q) (T.N t q) := by
                show (stTo (T.K t) (T.N t) q).bind _ = _
                rw [HG1.out]; rfl
              rw [e1] at hs ⊢
              unfold Cad.stepF at hs ⊢
              rw [HKQ.out] at hs ⊢
              simp only [if_true] at hs ⊢
              split at hs
              · rename_i g1; rw [if_pos g1]
              · cases hs
            exact (st_unlocks hp hh d (by omega) (fun i h1 h2 => he3 i h1 (by omega))).2
          have hh16 : xg.held.length ≤ 16 := by
            have := st_len _ HG1.out
            omega
          clear he he3 HE HW4 HV9 HM9
          go_wp2_with fail
          all_goals
            go_loopw [] (fun wr => ∃ d Y', q + 1 + d ≤ e ∧ Y'.jb = Y.jb ∧ WMove w0.heap.size n kb (.slice (some ⟨b, off, none⟩) n cap) (.slice (some ⟨pb, po, none⟩) n pc) u (setR { fairTo (sysOf T Z n) (setR u t 0 xg) t xg n with now := u.now + 1, given := wrap64 (u.given + 1) } t 0 (cuts xg r (q + 1) d)) dn dn Y Y' w5 wr) (fun wr => T.L t - stepOf (Y.jb t (dn t)) wr)
            case atStart =>
              obtain ⟨Y', h1, h2⟩ := HW6.out (u.now + 1) (wrap64 (u.given + 1)) _ (by first | exact .inl ⟨rfl, by omega⟩ | exact .inr ⟨rfl, by omega⟩)
              exact ⟨0, Y', he1, h1, h2⟩
            case round =>
              obtain ⟨d, Y1, hd, hY1, hM⟩ := hrel
              obtain ⟨s1, hs1⟩ : ∃ s1, s1 = q + 1 + d := ⟨_, rfl⟩
              have HS1 : Hid (s1 = q + 1 + d) := hs1
              have HM : Hid (WMove w0.heap.size n kb (.slice (some ⟨b, off, none⟩) n cap) (.slice (some ⟨pb, po, none⟩) n pc) u (setR { fairTo (sysOf T Z n) (setR u t 0 xg) t xg n with now := u.now + 1, given := wrap64 (u.given + 1) } t 0 (cuts xg r (q + 1) d)) dn dn Y Y1 w5 wr) := hM
              have hA := hM.at'
              have hwb1 := hM.wb
              have HBr : Below w0.heap.size w0 wr := HB5.out.trans (hM.fr.below HB5.out.size (fun i hi => (HA5.out.foot_lt hi).1))
              have hxr : ((setR { fairTo (sysOf T Z n) (setR u t 0 xg) t xg n with now := u.now + 1, given := wrap64 (u.given + 1) } t 0 (cuts xg r (q + 1) d)).runs t)[0]? = some (cuts xg r (q + 1) d) := by
                rw [HRN.out _ _ _ t ht', if_pos rfl]
                rfl
              have HXR : Hid _ := hxr
              have hj := hA.jrow t ht' 0 _ hxr
              have hi0 := hA.irow t ht' 0 _ hxr 0 (by omega)
              have hi1 := hA.irow t ht' 0 _ hxr 1 (by omega)
              have hi2 := hA.irow t ht' 0 _ hxr 2 (by omega)
              simp only [Nat.add_zero] at hj hi0 hi1 hi2
              rw [hY1] at hj
              have j3 : wr.cell? ⟨Y.jb t (dn t), 3, none⟩ = some (.int .i64 (s1 : Nat)) := by rw [hs1]; exact hj.cell (by omega)
              have j4 : wr.cell? ⟨Y.jb t (dn t), 4, none⟩ = some (Y1.V 1 t (dn t)) := hj.cell (by omega)
              have j5 : wr.cell? ⟨Y.jb t (dn t), 5, none⟩ = some (Y1.V 2 t (dn t)) := hj.cell (by omega)
              have y3 := hj.frozen 3
              have y4 := hj.frozen 4
              have y5 := hj.frozen 5
              have hjlr := hj.lt
              have hmeas : stepOf (Y.jb t (dn t)) wr = s1 := by unfold stepOf; rw [j3]; exact Int.toNat_natCast _
              obtain ⟨hsbr, hstr⟩ := HPG.out wr HBr
              by_cases hde : s1 < e
              · have hK3 := HE3.out s1 (by omega) hde
                obtain ⟨k1', k2'⟩ := hstr s1 (by omega)
                rw [hK3] at k1'
                have hdl := HUN.out (d + 1) (by omega)
                have hl1 : (cutN xg.held d).length = xg.held.length - d := cutN_len _ _
                have hl2 : (cutN xg.since d).length = xg.held.length - d := by rw [cutN_len, HG2.out]
                obtain ⟨g1, o1, cp1, hV1, hg1, _⟩ := SL.at (l := cutN xg.held d) hi1 (k := 0) (by omega)
                obtain ⟨g2, o2, cp2, hV2, hg2, _⟩ := SL.at (l := cutN xg.since d) hi2 (k := 0) (by omega)
                rw [hV1, hl1] at j4
                rw [hV2, hl2] at j5
                have HV1 : Hid _ := hV1
                have HV2 : Hid _ := hV2
                obtain ⟨ln, hln⟩ : ∃ ln, ln = xg.held.length - d := ⟨_, rfl⟩
                have HLN : Hid (ln = xg.held.length - d) := hln
                rw [← hln] at j4 j5
                have hln1 : 1 ≤ ln := by omega
                have hln16 : ln ≤ 16 := by omega
                have HSL1 := SL.at (l := cutN xg.held d) hi1 (k := 0) (by omega)
                have hc1 : ln ≤ cp1 := by
                  have := hi1
                  rw [hV1] at this
                  have := this.capOf
                  rw [ints_len] at this
                  have e1 : (lst (cuts xg r (q + 1) d) 1).length = (cutN xg.held d).length := rfl
                  omega
                have hc2 : ln ≤ cp2 := by
                  have := hi2
                  rw [hV2] at this
                  have := this.capOf
                  rw [ints_len] at this
                  have e1 : (lst (cuts xg r (q + 1) d) 2).length = (cutN xg.since d).length := rfl
                  omega
                obtain ⟨l1, rfl⟩ : ∃ l1, ln = l1 + 1 := ⟨ln - 1, by omega⟩
                have HCUT : Hid ((∃ d Y', q + 1 + d ≤ e ∧ Y'.jb = Y.jb ∧ WMove w0.heap.size n kb (.slice (some ⟨b, off, none⟩) n cap) (.slice (some ⟨pb, po, none⟩) n pc) u (setR { fairTo (sysOf T Z n) (setR u t 0 xg) t xg n with now := u.now + 1, given := wrap64 (u.given + 1) } t 0 (cuts xg r (q + 1) d)) dn dn Y Y' w5 (((wr.setCell ⟨Y.jb t (dn t), 4, none⟩ (.slice (some ⟨g1, o1, none⟩) l1 cp1)).setCell ⟨Y.jb t (dn t), 5, none⟩ (.slice (some ⟨g2, o2, none⟩) l1 cp2)).setCell ⟨Y.jb t (dn t), 3, none⟩ (.int .i64 (s1 + 1))).drew.drew) ∧ T.L t - stepOf (Y.jb t (dn t)) (((wr.setCell ⟨Y.jb t (dn t), 4, none⟩ (.slice (some ⟨g1, o1, none⟩) l1 cp1)).setCell ⟨Y.jb t (dn t), 5, none⟩ (.slice (some ⟨g2, o2, none⟩) l1 cp2)).setCell ⟨Y.jb t (dn t), 3, none⟩ (.int .i64 (s1 + 1))).drew.drew < T.L t - stepOf (Y.jb t (dn t)) wr) := by
                  have m1 := hA.cutOne hM.sep ht' hxr (s := s1 + 1) (l1 := l1) hV1 hV2 (by show l1 ≤ (cutN xg.held d).length; omega) (by show l1 ≤ (cutN xg.since d).length; omega)
                  rw [setR_twice, hY1] at m1
                  have e1 : (cuts xg r (q + 1) d).held.take l1 = cutN xg.held (d + 1) := by rw [cutN_succ, hl1, show xg.held.length - d - 1 = l1 by omega]; rfl
                  have e2 : (cuts xg r (q + 1) d).since.take l1 = cutN xg.since (d + 1) := by rw [cutN_succ, hl2, show xg.held.length - d - 1 = l1 by omega]; rfl
                  have e3 : { cuts xg r (q + 1) d with step := s1 + 1, held := (cuts xg r (q + 1) d).held.take l1, since := (cuts xg r (q + 1) d).since.take l1 } = cuts xg r (q + 1) (d + 1) := by
                    rw [e1, e2, hs1]
                    rfl
                  rw [e3] at m1
                  have m2 := ((hM.trans m1).below (bel_drew _)).below (bel_drew _)
                  refine ⟨⟨d + 1, _, by omega, by exact hY1, m2⟩, ?_⟩
                  have hc : (((wr.setCell ⟨Y.jb t (dn t), 4, none⟩ (.slice (some ⟨g1, o1, none⟩) l1 cp1)).setCell ⟨Y.jb t (dn t), 5, none⟩ (.slice (some ⟨g2, o2, none⟩) l1 cp2)).setCell ⟨Y.jb t (dn t), 3, none⟩ (.int .i64 (s1 + 1))).drew.drew.cell? ⟨Y.jb t (dn t), 3, none⟩ = some (.int .i64 (s1 + 1)) := World.cell?_setCell_same _ ⟨Y.jb t (dn t), 3, none⟩ (.int .i64 (s1 + 1)) (set_ne (by simp) (set_ne (by simp) j3))
                  have e5 : stepOf (Y.jb t (dn t)) (((wr.setCell ⟨Y.jb t (dn t), 4, none⟩ (.slice (some ⟨g1, o1, none⟩) l1 cp1)).setCell ⟨Y.jb t (dn t), 5, none⟩ (.slice (some ⟨g2, o2, none⟩) l1 cp2)).setCell ⟨Y.jb t (dn t), 3, none⟩ (.int .i64 (s1 + 1))).drew.drew = s1 + 1 := by
                    unfold stepOf
                    rw [hc]
                    show ((s1 : Int) + 1).toNat = s1 + 1
                    omega
                  rw [e5, hmeas]
                  omega
                clear hM hA HBr hxr hj hi0 hi1 hi2 hstr hK3 hl1 hl2 hV1 hV2 hln hs1 HSL1
                go_wp2_with fail
                go_region
                all_goals
                  go_wp2_with fail
                  go_region
                  all_goals
                    go_wp2_with fail
                    exact HCUT.out
              · obtain rfl : e = s1 := by omega
                have HEX : Hid (endW (sysOf T Z n) t xg = cuts xg r (q + 1) d) := by
                  unfold Hid endW
                  rw [HG4.out]
                  show (if (1 : Int) - 1 = 0 then _ else _) = _
                  rw [if_pos (show (1 : Int) - 1 = 0 from rfl), HG3.out]
                  show ({ xg with left := r, step := skip (T.K t) 3 (T.L t) (q + 1), held := cutN xg.held (skip (T.K t) 3 (T.L t) (q + 1) - (q + 1)), since := cutN xg.since (skip (T.K t) 3 (T.L t) (q + 1) - (q + 1)) } : Wr) = _
                  rw [← HEE.out, HS1.out, show q + 1 + d - (q + 1) = d by omega]
                  rfl
                have hdv : dnv = decide (r = []) := by rw [HDN.out, HEX.out]; rfl
                obtain ⟨ao0, cp0, hV0⟩ := SL.len (l := r) hi0
                have j2' : wr.cell? ⟨Y.jb t (dn t), 2, none⟩ = some (Y1.V 0 t (dn t)) := hj.cell (by omega)
                rw [hV0] at j2'
                have hK3 : (if e < T.L t then T.K t e else 0) ≠ 3 := by
                  split
                  · exact he4 (by assumption)
                  · decide
                have hstr' := hstr e
                generalize hrl : r.length = rl at *
                cases hr : r with
                | nil =>
                  have hd0 : dnv = true := by rw [hdv, hr]; rfl
                  subst hd0
                  have hrl0 : rl = 0 := by rw [← hrl, hr]; rfl
                  subst hrl0
                  have hrun : (setR { fairTo (sysOf T Z n) (setR u t 0 xg) t xg n with now := u.now + 1, given := wrap64 (u.given + 1) } t 0 (cuts xg r (q + 1) d)).runs t = cuts xg r (q + 1) d :: l := by
                    rw [HRN.out _ _ _ t ht', if_pos rfl]
                  obtain ⟨g3, o3, cp3, hsv, hg3, hp3⟩ := hA.ptr ht' (by rw [hrun]; simp)
                  have hsr := hA.srow t ht'
                  have hsr0 := hsr
                  rw [hsv, hrun] at hsr0
                  have hcap3 := hsr0.capOf
                  rw [ptrs_len, List.length_cons] at hcap3
                  rw [hrun, List.length_cons] at hsv hp3
                  obtain ⟨_, _, _, r3, r4, _⟩ := hA.wc
                  rw [hwb1] at r3 r4
                  have hr4 : (setR { fairTo (sysOf T Z n) (setR u t 0 xg) t xg n with now := u.now + 1, given := wrap64 (u.given + 1) } t 0 (cuts xg r (q + 1) d)).now = u.now + 1 := rfl
                  rw [hr4] at r4
                  have rt : wr.cell? ⟨Y1.rb, t, none⟩ = some (Y1.sv t) := hA.rrow.cell ht'
                  rw [hsv] at rt
                  have zrt := hA.rrow.frozen t
                  have hrbl := hA.rrow.lt
                  have hwblr := hA.wrow.lt
                  rw [hwb1] at hwblr
                  have nrw : Y1.rb ≠ Y.wb := by
                    have := row_ne hA.rrow hA.wrow (by decide)
                    rwa [hwb1] at this
                  have nrj : Y1.rb ≠ Y.jb t (dn t) := row_ne hA.rrow hj (by decide)
                  have nrg : g3 ≠ Y1.rb := fun e1 => hsr.ne hA.rrow (by decide) (by rw [hsv, e1]; rfl)
                  have HPOP : Hid (∀ v', (v' = .slice (some ⟨g3, o3, none⟩) l.length 0 ∧ cp3 = 1) ∨ (v' = .slice (some ⟨g3, o3 + 1, none⟩) l.length (cp3 - 1) ∧ cp3 ≠ 1) → ∃ Y' : WL, Y'.jb = Y.jb ∧ WMove w0.heap.size n kb (.slice (some ⟨b, off, none⟩) n cap) (.slice (some ⟨pb, po, none⟩) n pc) u { setR { fairTo (sysOf T Z n) (setR u t 0 xg) t xg n with now := u.now + 1, given := wrap64 (u.given + 1) } t 0 (cuts xg r (q + 1) d) with runs := upd (setR { fairTo (sysOf T Z n) (setR u t 0 xg) t xg n with now := u.now + 1, given := wrap64 (u.given + 1) } t 0 (cuts xg r (q + 1) d)).runs t l } dn (upd dn t (dn t + 1)) Y Y' w5 (wr.setCell ⟨Y1.rb, t, none⟩ v')) := by
                    intro v' hv'
                    have e1 : ptrs Y1 t (dn t) (l.length + 1) = .pointer (some ⟨Y1.jb t (dn t), 0, none⟩) :: ptrs Y1 t (dn t + 1) l.length := by
                      unfold ptrs
                      rw [List.range_succ_eq_map, List.map_cons, List.map_map]
                      congr 1
                      apply List.map_congr_left
                      intro i _
                      show Value.pointer (some ⟨Y1.jb t (dn t + (i + 1)), 0, none⟩) = Value.pointer (some ⟨Y1.jb t (dn t + 1 + i), 0, none⟩)
                      rw [show dn t + (i + 1) = dn t + 1 + i by omega]
                    have hs2 : SL 78 wr w0.heap.size (.slice (some ⟨g3, o3, none⟩) ((ptrs Y1 t (dn t + 1) l.length).length + 1) cp3) (.pointer (some ⟨Y1.jb t (dn t), 0, none⟩) :: ptrs Y1 t (dn t + 1) l.length) := by
                      rw [ptrs_len, ← e1, ← hsv]
                      rw [hrun] at hsr
                      exact hsr
                    have ht2 := hs2.tail
                    rw [ptrs_len] at ht2
                    have hvt : SL 78 wr w0.heap.size v' (ptrs Y1 t (dn t + 1) l.length) ∧ v'.ownBlock = some g3 := by
                      rcases hv' with ⟨rfl, h1⟩ | ⟨rfl, h1⟩
                      · rw [if_pos h1, show cp3 - 1 = 0 by omega] at ht2; exact ⟨ht2, rfl⟩
                      · rw [if_neg h1] at ht2; exact ⟨ht2, rfl⟩
                    have m1 := hA.pop hM.sep ht' hrun hvt.1 (fun b hb => by rw [hvt.2] at hb; cases hb; rw [hsv]; rfl)
                    exact ⟨_, by exact hY1, hM.trans m1⟩
                  have HEL : Hid ((endW (sysOf T Z n) t (goesW (sysOf T Z n) t u.now x)).left = []) := by unfold Hid; rw [← HXG.out, HEX.out]; exact hr
                  have HCR : Hid (∀ c, c < n → c ≠ t → (setR { fairTo (sysOf T Z n) (setR u t 0 xg) t xg n with now := u.now + 1, given := wrap64 (u.given + 1) } t 0 (cuts xg r (q + 1) d)).runs c = (wtick (sysOf T Z n) u t x l).runs c) := by
                    intro c hc hne
                    rw [HRN.out _ _ _ c hc, if_neg hne]
                    show _ = (if c = t then _ else _)
                    rw [if_neg hne, ← HXG.out]
                  have HCT : Hid ((wtick (sysOf T Z n) u t x l).runs t = wakeW (u.now + 1) l) := by
                    show (if t = t then (if (endW (sysOf T Z n) t (goesW (sysOf T Z n) t u.now x)).left = [] then _ else _) else _) = _
                    rw [if_pos rfl, if_pos HEL.out]
                  cases hl : l with
                  | nil =>
                    subst hl
                    have HFN : Hid (∀ v' w', (v' = .slice (some ⟨g3, o3, none⟩) 0 0 ∧ cp3 = 1) ∨ (v' = .slice (some ⟨g3, o3 + 1, none⟩) 0 (cp3 - 1) ∧ cp3 ≠ 1) → Below (wr.setCell ⟨Y1.rb, t, none⟩ v').heap.size (wr.setCell ⟨Y1.rb, t, none⟩ v') w' → WSt w0 w' n kb Y.wb (.slice (some ⟨b, off, none⟩) n cap) (.slice (some ⟨pb, po, none⟩) n pc) (sysOf T Z n) (tick (sysOf T Z n) m).1) := by
                      intro v' w' hv' hbw
                      obtain ⟨Y', h1, h2⟩ := HPOP.out v' hv'
                      refine HFIN.out _ _ _ _ (h2.below hbw) rfl rfl rfl rfl ?_
                      intro c hc
                      by_cases ec : c = t
                      · subst ec
                        rw [HCT.out]
                        exact upd_same _ _ _
                      · rw [← HCR.out c hc ec]
                        exact upd_other _ _ ec
                    by_cases heL : e < T.L t
                    · obtain ⟨k1', k2'⟩ := hstr' heL
                      have b3 : (T.K t e == 3) = false := by rw [beq_eq_false_iff_ne]; exact he4 heL
                      clear hM hA HBr hxr hj hi0 hi1 hi2 hstr hstr' hV0 hs1 hdv hK3 hr hrl hsv hsr hsr0 hp3 hrun hr4 HPOP
                      by_cases hc3 : cp3 = 1
                      · subst hc3
                        go_wp2_with fail
                        go_region
                        all_goals
                          go_wp2_with fail
                          go_quiet (fail)
                          go_wp2
                          go_ret
                          exact ⟨rfl, HFN.out _ _ (.inl ⟨rfl, by first | trivial | rfl⟩) (below_drewM (bel_drew _) _)⟩
                      · go_wp2_with fail
                        go_region
                        all_goals
                          go_wp2_with fail
                          go_quiet (fail)
                          go_wp2
                          go_ret
                          exact ⟨rfl, HFN.out _ _ (.inr ⟨rfl, hc3⟩) (below_drewM (bel_drew _) _)⟩
                    · clear hM hA HBr hxr hj hi0 hi1 hi2 hstr hstr' hV0 hs1 hdv hK3 hr hrl hsv hsr hsr0 hp3 hrun hr4 HPOP
                      by_cases hc3 : cp3 = 1
                      · subst hc3
                        go_wp2_with fail
                        go_region
                        all_goals
                          go_wp2_with fail
                          go_quiet (fail)
                          go_wp2
                          go_ret
                          exact ⟨rfl, HFN.out _ _ (.inl ⟨rfl, by first | trivial | rfl⟩) (below_drewM (bel_drew _) _)⟩
                      · go_wp2_with fail
                        go_region
                        all_goals
                          go_wp2_with fail
                          go_quiet (fail)
                          go_wp2
                          go_ret
                          exact ⟨rfl, HFN.out _ _ (.inr ⟨rfl, hc3⟩) (below_drewM (bel_drew _) _)⟩
                  | cons y l' =>
                    subst hl
                    rw [List.length_cons] at hcap3 hp3 rt
                    have hc3 : cp3 ≠ 1 := by omega
                    have hp1 : wr.cell? ⟨g3, o3 + 1, none⟩ = some (.pointer (some ⟨Y.jb t (dn t + 1), 0, none⟩)) := by
                      have := hp3 1 (by omega)
                      rwa [hY1] at this
                    have hjy := hA.jrow t ht' 1 y (by rw [hrun]; rfl)
                    rw [hY1] at hjy
                    have jy1 : wr.cell? ⟨Y.jb t (dn t + 1), 1, none⟩ = some (.int .i64 y.ready) := hjy.cell (by omega)
                    have jyz := hjy.frozen 1
                    have hjyl := hjy.lt
                    have nrg' := nrg.symm
                    have nry : Y1.rb ≠ Y.jb t (dn t + 1) := row_ne hA.rrow hjy (by decide)
                    have nry' := nry.symm
                    have HF1 : Hid (∀ w', Below (wr.setCell ⟨Y1.rb, t, none⟩ (.slice (some ⟨g3, o3 + 1, none⟩) (l'.length + 1) (cp3 - 1))).heap.size (wr.setCell ⟨Y1.rb, t, none⟩ (.slice (some ⟨g3, o3 + 1, none⟩) (l'.length + 1) (cp3 - 1))) w' → ¬ y.ready < u.now + 1 → WSt w0 w' n kb Y.wb (.slice (some ⟨b, off, none⟩) n cap) (.slice (some ⟨pb, po, none⟩) n pc) (sysOf T Z n) (tick (sysOf T Z n) m).1) := by
                      intro w' hbw hyr
                      obtain ⟨Y', h1, h2⟩ := HPOP.out _ (.inr ⟨rfl, hc3⟩)
                      refine HFIN.out _ _ _ _ (h2.below hbw) rfl rfl rfl rfl ?_
                      intro c hc
                      by_cases ec : c = t
                      · subst ec
                        have hwk : wakeW (u.now + 1) (y :: l') = y :: l' := by
                          show (if y.ready < u.now + 1 then _ else y) :: l' = _
                          rw [if_neg hyr]
                        rw [HCT.out, hwk]
                        exact upd_same _ _ _
                      · rw [← HCR.out c hc ec]
                        exact upd_other _ _ ec
                    have HF2 : Hid (∀ w' w'', Below (wr.setCell ⟨Y1.rb, t, none⟩ (.slice (some ⟨g3, o3 + 1, none⟩) (l'.length + 1) (cp3 - 1))).heap.size (wr.setCell ⟨Y1.rb, t, none⟩ (.slice (some ⟨g3, o3 + 1, none⟩) (l'.length + 1) (cp3 - 1))) w' → y.ready < u.now + 1 → Below (w'.setCell ⟨Y.jb t (dn t + 1), 1, none⟩ (.int .i64 (u.now + 1))).heap.size (w'.setCell ⟨Y.jb t (dn t + 1), 1, none⟩ (.int .i64 (u.now + 1))) w'' → WSt w0 w'' n kb Y.wb (.slice (some ⟨b, off, none⟩) n cap) (.slice (some ⟨pb, po, none⟩) n pc) (sysOf T Z n) (tick (sysOf T Z n) m).1) := by
                      intro w' w'' hbw hyr hbw2
                      obtain ⟨Y', h1, h2⟩ := HPOP.out _ (.inr ⟨rfl, hc3⟩)
                      have m1 := h2.below hbw
                      have m2 := m1.trans (m1.at'.setReady m1.sep ht' (i := 0) (x := y) (by show (upd _ t (y :: l') t)[0]? = some y; rw [upd_same]; rfl) (u.now + 1))
                      rw [h1, Nat.add_zero, upd_same] at m2
                      refine HFIN.out _ _ _ _ (m2.below hbw2) rfl rfl rfl rfl ?_
                      intro c hc
                      by_cases ec : c = t
                      · subst ec
                        have hwk : wakeW (u.now + 1) (y :: l') = { y with ready := u.now + 1 } :: l' := by
                          show (if y.ready < u.now + 1 then _ else y) :: l' = _
                          rw [if_pos hyr]
                        rw [HCT.out, hwk]
                        refine (upd_same _ _ _).trans ?_
                        show (upd _ c (y :: l') c).set 0 _ = _
                        rw [upd_same]
                        rfl
                      · rw [← HCR.out c hc ec]
                        exact (upd_other _ _ ec).trans (upd_other _ _ ec)
                    by_cases heL : e < T.L t
                    · obtain ⟨k1', k2'⟩ := hstr' heL
                      have b3 : (T.K t e == 3) = false := by rw [beq_eq_false_iff_ne]; exact he4 heL
                      clear hM hA HBr hxr hj hi0 hi1 hi2 hstr hstr' hV0 hs1 hdv hK3 hr hrl hsv hsr hsr0 hp3 hrun hr4 HPOP hjy hcap3
                      by_cases hyr : y.ready < u.now + 1
                      · go_wp2_with fail
                        go_region
                        all_goals
                          go_wp2_with fail
                          go_quiet (fail)
                          go_wp2_with fail
                          go_region
                          all_goals
                            go_wp2
                            go_ret
                            exact ⟨rfl, HF2.out _ _ (below_drewM (Below.refl _ _) _) hyr (Below.refl _ _)⟩
                      · go_wp2_with fail
                        go_region
                        all_goals
                          go_wp2_with fail
                          go_quiet (fail)
                          go_wp2
                          go_ret
                          exact ⟨rfl, HF1.out _ (below_drewM (bel_drew _) _) hyr⟩
                    · clear hM hA HBr hxr hj hi0 hi1 hi2 hstr hstr' hV0 hs1 hdv hK3 hr hrl hsv hsr hsr0 hp3 hrun hr4 HPOP hjy hcap3
                      by_cases hyr : y.ready < u.now + 1
                      · go_wp2_with fail
                        go_region
                        all_goals
                          go_wp2_with fail
                          go_quiet (fail)
                          go_wp2_with fail
                          go_region
                          all_goals
                            go_wp2
                            go_ret
                            exact ⟨rfl, HF2.out _ _ (below_drewM (Below.refl _ _) _) hyr (Below.refl _ _)⟩
                      · go_wp2_with fail
                        go_region
                        all_goals
                          go_wp2_with fail
                          go_quiet (fail)
                          go_wp2
                          go_ret
                          exact ⟨rfl, HF1.out _ (below_drewM (bel_drew _) _) hyr⟩
                | cons a0 r0 =>
                  have hd0 : dnv = false := by rw [hdv, hr]; rfl
                  subst hd0
                  have hrl1 : ((rl : Int) == 0) = false := by rw [beq_eq_false_iff_ne, ← hrl, hr]; simp; omega
                  have HFN : Hid (WSt w0 wr n kb Y.wb (.slice (some ⟨b, off, none⟩) n cap) (.slice (some ⟨pb, po, none⟩) n pc) (sysOf T Z n) (tick (sysOf T Z n) m).1) := by
                    refine HFIN.out _ _ _ _ hM rfl rfl rfl rfl ?_
                    intro c hc
                    rw [HRN.out _ _ _ c hc]
                    show _ = (if c = t then (if (endW (sysOf T Z n) t (goesW (sysOf T Z n) t u.now x)).left = [] then _ else _) else _)
                    rw [← HXG.out, HEX.out]
                    have hne : (cuts xg r (q + 1) d).left ≠ [] := by show r ≠ []; rw [hr]; simp
                    rw [if_neg hne]
                  by_cases heL : e < T.L t
                  · obtain ⟨k1', k2'⟩ := hstr' heL
                    have b3 : (T.K t e == 3) = false := by rw [beq_eq_false_iff_ne]; exact he4 heL
                    clear hM hA HBr hxr hj hi0 hi1 hi2 hstr hstr' hV0 hs1 hdv hK3 hr hrl
                    go_wp2
                    go_ret
                    exact ⟨rfl, HFN.out⟩
                  · clear hM hA HBr hxr hj hi0 hi1 hi2 hstr hstr' hV0 hs1 hdv hK3 hr hrl
                    go_wp2
                    go_ret
                    exact ⟨rfl, HFN.out⟩
        · clear HM9
          have b1 : (a - 1 == 0) = false := by rw [beq_eq_false_iff_ne]; omega
          have HEN : Hid (endW (sysOf T Z n) t xg = { xg with left := (a - 1) :: r }) := by
            unfold Hid endW
            rw [HG4.out]
            exact if_neg (by omega)
          have hd0 : dnv = false := by
            rw [HDN.out, HEN.out]
            rfl
          subst hd0
          have hrl : ((r.length : Int) + 1 == 0) = false := by rw [beq_eq_false_iff_ne]; omega
          go_wp2
          go_ret
          refine ⟨rfl, HFIN.out _ _ _ _ (HW4.out _ _) rfl rfl rfl rfl ?_⟩
          intro c hc
          rw [HRN.out _ _ _ c hc]
          show _ = (if c = t then _ else _)
          rw [← HXG.out, HEN.out]
          split
          · rfl
          · rfl

end Go.Proofs.YtdabcflpcklfiaaGreat
