import Derived.Test.YtdabcflpcklfiaaGreatVi
/- A resource's ceiling, as the law finds it; since when a section is held. -/
namespace Go.Proofs.YtdabcflpcklfiaaGreat
open Go.RowKit Cad

set_option maxRecDepth 100000 in
set_option maxHeartbeats 2000000 in
theorem ceilW_any (wb b off n cap pb po pc : Nat) (T : TD) (Z : Nat → Int) (r : Int) (w : World) (hn : n ≤ 8) (hwb : wb < w.heap.size) (hw1 : w.cell? ⟨wb, 1, none⟩ = some (.slice (some ⟨b, off, none⟩) n cap)) (hw2 : w.cell? ⟨wb, 2, none⟩ = some (.slice (some ⟨pb, po, none⟩) n pc)) (hb : b < w.heap.size) (hpb : pb < w.heap.size) (hT : TasksAt w b off n T) (hZ : IntsAt w pb po n Z)
    (hv : ∀ t, t < n → Cad.progB (T.K t) (T.N t) (T.L t) = true) :
    Calls Tryz.prog 87 #[.pointer (some ⟨wb, 0, none⟩), .int .i64 r] w fun e w' => ∃ c, e = .returned (.int .i64 c) ∧ Cad.IsCeil T.K T.N T.L Z n r c ∧ Below w.heap.size w w' := by
  have HT : Hid _ := hT
  have HZ : Hid _ := hZ
  have HV : Hid _ := hv
  have HW1 : Hid (w.cell? ⟨wb, 1, none⟩ = some (.slice (some ⟨b, off, none⟩) n cap)) := hw1
  have HW2 : Hid (w.cell? ⟨wb, 2, none⟩ = some (.slice (some ⟨pb, po, none⟩) n pc)) := hw2
  clear hT hZ hv hw1 hw2
  go_enter Tryz.func87, Tryz.ntmps87
  go_wp2
  go_loopw [5, 6] (fun c i wr => ∃ (k : Nat) (c0 : Int), k ≤ n ∧ i = .int .i64 k ∧ c = .int .i64 c0 ∧ CeilTo T Z r k 0 c0 ∧ Below w.heap.size w wr) (fun _ i _ => n - (intOf i).toNat)
  case atStart => exact ⟨0, -1, Nat.zero_le _, rfl, rfl, CeilTo.start, Below.refl _ _⟩
  case round =>
    obtain ⟨i, c0, hi, rfl, rfl, hce, hbel⟩ := hrel
    have HCE : Hid _ := hce
    clear hce
    have HB : Hid _ := hbel
    have e1 := (hbel.cell (p := ⟨wb, 1, none⟩) hwb).trans HW1.out
    clear hbel
    by_cases hlt : i < n
    · have hsz := HB.out.size
      have hLv := Cad.progB_inv (HV.out i hlt)
      have hL16 : T.L i ≤ 16 := hLv.2.1
      have hL1 : 1 ≤ T.L i := hLv.1
      clear hLv
      go_wp2_with fail
      clear e1
      go_loopw [5, 7] (fun c k wr => ∃ (q : Nat) (c1 : Int), q ≤ T.L i ∧ k = .int .i64 q ∧ c = .int .i64 c1 ∧ CeilTo T Z r i q c1 ∧ Below w.heap.size w wr) (fun _ k _ => T.L i - (intOf k).toNat)
      case atStart => exact ⟨0, c0, Nat.zero_le _, rfl, rfl, HCE.out, HB.out⟩
      case round =>
        obtain ⟨q, c1, hq, rfl, rfl, hce1, hbel1⟩ := hrel
        have HC1 : Hid _ := hce1
        clear hce1
        have hsz1 := hbel1.size
        have e1 := (hbel1.cell (p := ⟨wb, 1, none⟩) hwb).trans HW1.out
        have e2w := (hbel1.cell (p := ⟨wb, 2, none⟩) hwb).trans HW2.out
        have hwwr : wb < wr.heap.size := by omega
        have hbwr : b < wr.heap.size := by omega
        have hpwr : pb < wr.heap.size := by omega
        obtain ⟨_, _, _, c3, hp⟩ := TasksAt.below HT.out hb hbel1 i hlt
        have cz := IntsAt.below HZ.out hpb hbel1 i hlt
        obtain ⟨sb, so, hA, hsb, hst⟩ := hp.2 hL1
        rw [hA] at c3
        have HB1 : ∀ o, Below w.heap.size w (wr.alloc o) := fun o => hbel1.alloc hbel1.size o
        by_cases hql : q < T.L i
        · have s0 := (hst q hql).1
          have s1 := (hst q hql).2
          have hsk : Hid _ := CeilTo.skip (k := q) HC1.out
          have htk : Hid _ := CeilTo.take (k := q) HC1.out
          clear hp hst hA
          generalize hK : T.K i q = kk at *
          generalize hN : T.N i q = nn at *
          generalize hZi : Z i = zi at *
          have HK : Hid _ := hK
          have HN : Hid _ := hN
          have HZi : Hid _ := hZi
          clear hK hN hZi
          by_cases e2 : kk = 2
          · have b2 : (kk == 2) = true := by simpa using e2
            by_cases er : nn = r
            · have br : (nn == r) = true := by simpa using er
              by_cases ez : c1 < zi
              · have bz : decide (c1 < zi) = true := by simpa using ez
                have FIN : Hid _ := htk.out e2 er ez
                clear e2 er
                go_wp2
                go_roundw
                case rel => exact ⟨q + 1, zi, by omega, by go_num, rfl, FIN.out, HB1 _⟩
                case measure => simp [intOf]; omega
              · have FIN : Hid _ := hsk.out (fun e => ez e.2.2)
                clear e2 er
                go_wp2
                go_roundw
                case rel => exact ⟨q + 1, c1, by omega, by go_num, rfl, FIN.out, HB1 _⟩
                case measure => simp [intOf]; omega
            · have br : (nn == r) = false := by simpa using er
              have FIN : Hid _ := hsk.out (fun e => er e.2.1)
              clear e2 er
              go_wp2
              go_roundw
              case rel => exact ⟨q + 1, c1, by omega, by go_num, rfl, FIN.out, HB1 _⟩
              case measure => simp [intOf]; omega
          · have b2 : (kk == 2) = false := by simpa using e2
            have FIN : Hid _ := hsk.out (fun e => e2 e.1)
            clear e2
            go_wp2
            go_roundw
            case rel => exact ⟨q + 1, c1, by omega, by go_num, rfl, FIN.out, HB1 _⟩
            case measure => simp [intOf]; omega
        · obtain rfl : q = T.L i := by omega
          have HBL : Hid _ := hbel1
          clear hp hst hA hbel1
          go_wp2
          go_roundw
          case rel => exact ⟨i + 1, c1, by omega, by go_num, rfl, CeilTo.next HC1.out, HBL.out⟩
          case measure => simp [intOf]; omega
    · obtain rfl : i = n := by omega
      go_wp2
      go_ret
      exact ⟨_, rfl, CeilTo.fin HCE.out, HB.out⟩

theorem ceil_eq {T : TD} {Z : Nat → Int} {n : Nat} {r c : Int} (h : IsCeil T.K T.N T.L Z n r c) (hl : ∃ t, t < n ∧ Locks (T.K t) (T.N t) (T.L t) r) (hz : ∀ t, t < n → 0 ≤ Z t) (hr : 0 ≤ r) (hv : ∀ t, t < n → ∀ k, k < T.L t → T.K t k = 2 → 0 ≤ T.N t k) : c = (sysOf T Z n).C r.toNat := by
  obtain ⟨h1, h2⟩ := h
  obtain ⟨i1, i2⟩ := ceilI_spec (K := T.K) (N := T.N) (L := T.L) (Z := Z) n
  show c = ceilI T.K T.N T.L Z n r.toNat
  obtain ⟨t0, ht0, k0, hk0, e0, en0⟩ := hl
  have a1 := i1 t0 k0 ht0 hk0 e0
  rw [en0] at a1
  have a2 := h2 t0 ht0 ⟨k0, hk0, e0, en0⟩
  have a3 := hz t0 ht0
  have up : c ≤ ceilI T.K T.N T.L Z n r.toNat := by
    rcases h1 with g | ⟨t, ht, ⟨k, hk, e, en⟩, g⟩
    · omega
    · have := i1 t k ht hk e
      rw [en] at this
      omega
  rcases i2 r.toNat with g | ⟨t, q, ht, hq, e, en, g⟩
  · omega
  · have hN := hv t ht q hq e
    have := h2 t ht ⟨q, hq, e, by omega⟩
    omega

theorem sect_drop {C : Nat → Int} {z : Int} {h s : List Int} (hl : s.length = h.length) {i : Nat} (hi : i < h.length) : sectOf C z (h.drop i) (s.drop i) = if z ≤ C (h.getD i 0).toNat then s.getD i 0 else sectOf C z (h.drop (i + 1)) (s.drop (i + 1)) := by
  rw [List.drop_eq_getElem_cons hi, List.drop_eq_getElem_cons (show i < s.length by omega)]
  show (if z ≤ C (h[i]).toNat then s[i] else _) = _
  have e1 : h.getD i 0 = h[i] := by simp [List.getD, hi]
  have e2 : s.getD i 0 = s[i] := by simp [List.getD, show i < s.length by omega]
  rw [e1, e2]

/-- An element of a list of numbers of the law's own. -/
theorem SL.at {w : World} {B : Nat} {v : Value} {l : List Int} (h : SL 3 w B v (ints l)) {k : Nat} (hk : k < l.length) : ∃ g o cap, v = .slice (some ⟨g, o, none⟩) l.length cap ∧ g < w.heap.size ∧ w.cell? ⟨g, o + k, none⟩ = some (.int .i64 (l.getD k 0)) ∧ w.frozen? ⟨g, o + k, none⟩ = false := by
  rcases h with ⟨_, e2⟩ | ⟨gg, oo, cc, sz, f, e, _, hr, h3, h4, h5⟩
  · have := ints_len l; rw [e2] at this; simp at this; omega
  · rw [ints_len] at e h4
    exact ⟨gg, oo, cc, e, hr.lt, by rw [hr.cell (by omega), h5 k _ (ints_get hk)], hr.frozen _⟩

theorem SL.len {w : World} {B : Nat} {v : Value} {l : List Int} (h : SL 3 w B v (ints l)) : ∃ ao cap, v = .slice ao l.length cap := by
  obtain ⟨ao, cap, e⟩ := h.shape
  rw [ints_len] at e
  exact ⟨ao, cap, e⟩

set_option maxRecDepth 100000 in
set_option maxHeartbeats 2000000 in
theorem section_any {B n kb b off cap pb po pc : Nat} {u : Wt} {dn : Nat → Nat} {Y : WL} {T : TD} {Z : Nat → Int} {w : World} (h : WAt w B n kb (.slice (some ⟨b, off, none⟩) n cap) (.slice (some ⟨pb, po, none⟩) n pc) u dn Y) (hG : Good T n) (hP : PrioB Z n) (hb : b < w.heap.size) (hpb : pb < w.heap.size) (hT : TasksAt w b off n T) (hZ : IntsAt w pb po n Z)
    {t i : Nat} {x : Wr} (ht : t < n) (hx : (u.runs t)[i]? = some x) (hlen : x.since.length = x.held.length) (hh16 : x.held.length ≤ 16) (hlk : ∀ r ∈ x.held, 0 ≤ r ∧ ∃ t, t < n ∧ Locks (T.K t) (T.N t) (T.L t) r) (z : Int) :
    Calls Tryz.prog 56 #[.pointer (some ⟨Y.wb, 0, none⟩), .pointer (some ⟨Y.jb t (dn t + i), 0, none⟩), .int .i64 z] w fun e w' => e = .returned (.int .i64 (sectOf (sysOf T Z n).C z x.held x.since)) ∧ Below w.heap.size w w' := by
  have HA : Hid (WAt w B n kb (.slice (some ⟨b, off, none⟩) n cap) (.slice (some ⟨pb, po, none⟩) n pc) u dn Y) := h
  have HG : Hid (Good T n) := hG
  have HP : Hid (PrioB Z n) := hP
  have HT : Hid (TasksAt w b off n T) := hT
  have HZ : Hid (IntsAt w pb po n Z) := hZ
  have HLK : Hid (∀ r ∈ x.held, 0 ≤ r ∧ ∃ t, t < n ∧ Locks (T.K t) (T.N t) (T.L t) r) := hlk
  have HXX : Hid ((u.runs t)[i]? = some x) := hx
  have hn8 := hG.eight
  have hwl := h.wrow.lt
  have hjl := (h.jrow t ht i x hx).lt
  clear h hG hP hT hZ hlk hx
  go_enter Tryz.func56, Tryz.ntmps56
  go_wp2_with fail
  go_loopw [7] (fun iv wr => ∃ k : Nat, k ≤ x.held.length ∧ iv = .int .i64 k ∧ sectOf (sysOf T Z n).C z x.held x.since = sectOf (sysOf T Z n).C z (x.held.drop k) (x.since.drop k) ∧ Below w.heap.size w wr) (fun iv _ => x.held.length - (intOf iv).toNat)
  case atStart => exact ⟨0, Nat.zero_le _, rfl, rfl, Below.refl _ _⟩
  case round =>
    obtain ⟨k, hk, rfl, hse, hbel⟩ := hrel
    have HSE : Hid (sectOf (sysOf T Z n).C z x.held x.since = sectOf (sysOf T Z n).C z (x.held.drop k) (x.since.drop k)) := hse
    have HB : Hid (Below w.heap.size w wr) := hbel
    have HAr := HA.out.below hbel
    have hj := HAr.jrow t ht i x HXX.out
    have j4 : wr.cell? ⟨Y.jb t (dn t + i), 4, none⟩ = some (Y.V 1 t (dn t + i)) := hj.cell (by omega)
    have j5 : wr.cell? ⟨Y.jb t (dn t + i), 5, none⟩ = some (Y.V 2 t (dn t + i)) := hj.cell (by omega)
    have hsl4 : SL 3 wr B (Y.V 1 t (dn t + i)) (ints x.held) := HAr.irow t ht i x HXX.out 1 (by omega)
    have hsl5 : SL 3 wr B (Y.V 2 t (dn t + i)) (ints x.since) := HAr.irow t ht i x HXX.out 2 (by omega)
    have hsz := hbel.size
    clear hse
    by_cases hkl : k < x.held.length
    · obtain ⟨g4, o4, cap4, e4, hg4, y4, _⟩ := hsl4.at hkl
      obtain ⟨g5, o5, cap5, e5, hg5, y5, _⟩ := hsl5.at (show k < x.since.length by omega)
      rw [e4] at j4
      rw [e5] at j5
      have hmem : x.held.getD k 0 ∈ x.held := by
        simp only [List.getD_eq_getElem?_getD, List.getElem?_eq_getElem hkl, Option.getD_some]
        exact List.getElem_mem hkl
      obtain ⟨hr0, hrl⟩ := HLK.out _ hmem
      have HSD : Hid (sectOf (sysOf T Z n).C z (x.held.drop k) (x.since.drop k) = if z ≤ (sysOf T Z n).C (x.held.getD k 0).toNat then x.since.getD k 0 else sectOf (sysOf T Z n).C z (x.held.drop (k + 1)) (x.since.drop (k + 1))) := sect_drop hlen hkl
      have HCC : Hid (Calls Tryz.prog 87 #[.pointer (some ⟨Y.wb, 0, none⟩), .int .i64 (x.held.getD k 0)] wr fun e w' => e = .returned (.int .i64 ((sysOf T Z n).C (x.held.getD k 0).toNat)) ∧ Below wr.heap.size wr w') := by
        unfold Hid
        obtain ⟨_, c1, c2, _⟩ := HAr.wc
        refine (ceilW_any Y.wb b off n cap pb po pc T Z (x.held.getD k 0) wr hn8 (by omega) c1 c2 (by omega) (by omega) (TasksAt.below HT.out hb hbel) (IntsAt.below HZ.out hpb hbel) HG.out.prog).mono ?_
        rintro e w' ⟨c, he, hc, hb'⟩
        rw [ceil_eq hc hrl (fun t ht => (HP.out.1 t ht).1) hr0 (fun t ht k hk h2 => by
          rcases (progB_inv (HG.out.prog t ht)).2.2.2.steps k hk with g | g | g
          · omega
          · exact g.2.1
          · omega)] at he
        exact ⟨he, hb'⟩
      clear HAr hj hsl4 hsl5 hmem hrl hbel
      have hlen2 : x.since.length = x.held.length := hlen
      generalize hrr : x.held.getD k 0 = rr at *
      generalize hss : x.since.getD k 0 = ss at *
      generalize hcc : (sysOf T Z n).C rr.toNat = cc at *
      generalize hxl : x.held.length = xl at *
      rw [hlen2] at j5
      have hjw : Y.jb t (dn t + i) < wr.heap.size := by omega
      clear hcc hrr hss
      go_wp2_with fail
      refine (HCC.out).mono ?_
      rintro e w5 ⟨rfl, hb5⟩
      have hs5 := hb5.size
      have j5' : w5.cell? ⟨Y.jb t (dn t + i), 5, none⟩ = some (.slice (some ⟨g5, o5, none⟩) xl cap5) := (hb5.cell (p := ⟨Y.jb t (dn t + i), 5, none⟩) hjw).trans j5
      have y5' : w5.cell? ⟨g5, o5 + k, none⟩ = some (.int .i64 ss) := (hb5.cell (p := ⟨g5, o5 + k, none⟩) hg5).trans y5
      have HB5 : Hid (Below w.heap.size w w5) := HB.out.trans (hb5.mono hsz)
      have hg5' : g5 < w5.heap.size := by omega
      have hjw5 : Y.jb t (dn t + i) < w5.heap.size := by omega
      clear hb5 HCC j4 j5 y4 y5
      by_cases hcz : z ≤ cc
      · have bz : decide (z ≤ cc) = true := decide_eq_true hcz
        have HFIN : Hid (sectOf (sysOf T Z n).C z x.held x.since = ss) := by unfold Hid; rw [HSE.out, HSD.out, if_pos hcz]
        go_wp2
        go_ret
        exact ⟨by rw [HFIN.out]; rfl, HB5.out⟩
      · have bz : decide (z ≤ cc) = false := decide_eq_false hcz
        have HFIN : Hid (sectOf (sysOf T Z n).C z x.held x.since = sectOf (sysOf T Z n).C z (x.held.drop (k + 1)) (x.since.drop (k + 1))) := by unfold Hid; rw [HSE.out, HSD.out, if_neg hcz]
        go_wp2
        go_roundw
        case rel => exact ⟨k + 1, by omega, by go_num, HFIN.out, HB5.out⟩
        case measure => simp [intOf]; omega
    · obtain rfl : k = x.held.length := by omega
      obtain ⟨ao, cap4, e4⟩ := hsl4.len
      rw [e4] at j4
      have HFIN : Hid (sectOf (sysOf T Z n).C z x.held x.since = -1) := by
        unfold Hid
        rw [HSE.out, List.drop_length]
        simp [sectOf]
      clear HAr hj hsl4 hsl5 hbel j5 e4
      generalize hxl : x.held.length = xl at *
      go_wp2
      go_ret
      exact ⟨by rw [HFIN.out]; rfl, HB.out⟩

end Go.Proofs.YtdabcflpcklfiaaGreat
