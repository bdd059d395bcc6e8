import Derived.Test.YtdabcflpcklfiaaGreatVk
/- The law looks whether every wait is fair. -/
namespace Go.Proofs.YtdabcflpcklfiaaGreat
open Go.RowKit Cad

/-- One run is written, and its lists lie where they lay. -/
theorem WAt.putRun {w w' : World} {B n kb : Nat} {tv pv : Value} {u : Wt} {dn : Nat → Nat} {Y : WL} (h : WAt w B n kb tv pv u dn Y) (hs : WSep n u dn Y) {t i : Nat} {x x' : Wr} {Vn : Nat → Value} (ht : t < n) (hx : (u.runs t)[i]? = some x)
    (hf : Fr (fun q => q = Y.jb t (dn t + i) ∨ ∃ c, c < 3 ∧ (Y.V c t (dn t + i)).ownBlock = some q) w w') (hrow : w'.rowIs (Y.jb t (dn t + i)) 80 8 (rcell t x' Vn)) (hi : ∀ c, c < 3 → SL 3 w' B (Vn c) (ints (lst x' c)))
    (hn : ∀ c, c < 3 → ∀ b, (Vn c).ownBlock = some b → (Y.V c t (dn t + i)).ownBlock = some b) :
    WMove B n kb tv pv u (setR u t i x') dn dn Y (setY Y t (dn t + i) Vn) w w' := by
  have hl := wlive_get (n := n) (dn := dn) ht hx
  obtain ⟨h1, h2, h3⟩ := h.updRun hs ht hx hf hrow hi (fun c hc b hb => .inl (hn c hc b hb)) (fun c c' b hc hc' e1 e2 => (hs.iv c t _ c' t _ b hc hc' hl hl (hn c hc b e1) (hn c' hc' b e2)).1)
  exact ⟨h1, h2, hf.mono (fun q hq => by
    rcases hq with rfl | ⟨c, hc, g⟩
    · exact .inr (.inr (.inr (.inl ⟨t, _, hl, rfl⟩)))
    · exact .inr (.inr (.inr (.inr ⟨c, t, _, hc, hl, g⟩)))), h3, rfl⟩

theorem SL.setJ {w : World} {B jb q : Nat} {v y : Value} {l : List Value} {F : Nat → Value} (hv : SL 3 w B v l) (hr : w.rowIs jb 80 8 F) : SL 3 (w.setCell ⟨jb, q, none⟩ y) B v l := hv.of_block (fun b hb => Deep.blk_setCell_other _ _ _ _ (fun e => hv.ne hr (by decide) (by rw [← (show b = jb from e)]; exact hb)))

/-- Whom a run waits for is written. -/
theorem WAt.setBk {w : World} {B n kb : Nat} {tv pv : Value} {u : Wt} {dn : Nat → Nat} {Y : WL} (h : WAt w B n kb tv pv u dn Y) (hs : WSep n u dn Y) {t : Nat} {y : Wr} (ht : t < n) (hx : (u.runs t)[0]? = some y) (bk fr : Int) :
    WMove B n kb tv pv u (setR u t 0 { y with bk := bk, fr := fr }) dn dn Y (setY Y t (dn t + 0) (fun c => Y.V c t (dn t + 0))) w ((w.setCell ⟨Y.jb t (dn t), 6, none⟩ (.int .i64 bk)).setCell ⟨Y.jb t (dn t), 7, none⟩ (.int .i64 fr)) := by
  have hj := h.jrow t ht 0 y hx
  have hj1 := hj.set 6 (.int .i64 bk)
  have hj2 := hj1.set 7 (.int .i64 fr)
  refine h.putRun hs ht hx (((Fr.refl _ _).setCell (.inl (.inl rfl)) _).setCell (.inl (.inl rfl)) _) (hj2.congr ?_) (fun c hc => ?_) (fun c hc b hb => hb)
  · intro p hp
    match p, hp with
    | 0, _ => rfl
    | 1, _ => rfl
    | 2, _ => rfl
    | 3, _ => rfl
    | 4, _ => rfl
    | 5, _ => rfl
    | 6, _ => rfl
    | 7, _ => rfl
  · exact ((h.irow t ht 0 y hx c hc).setJ hj).setJ hj1

/-- What the law has written when it has looked at k tasks. -/
def fairTo (S : Sy) (u : Wt) (t : Nat) (x : Wr) (k : Nat) : Wt := { u with runs := fun a => if a < k then fairW S u.now t x a (u.runs a) else u.runs a }

theorem fairTo_zero (S : Sy) (u : Wt) (t : Nat) (x : Wr) : fairTo S u t x 0 = u := by
  unfold fairTo
  have : (fun a => if a < 0 then fairW S u.now t x a (u.runs a) else u.runs a) = u.runs := funext (fun a => if_neg (by omega))
  rw [this]

theorem fairTo_at (S : Sy) (u : Wt) (t : Nat) (x : Wr) (k : Nat) : (fairTo S u t x k).runs k = u.runs k := if_neg (by omega)

theorem fairW_self (S : Sy) (now : Int) (t : Nat) (x : Wr) (l : List Wr) : fairW S now t x t l = l := by
  unfold fairW
  cases l with
  | nil => rfl
  | cons y r => exact if_neg (by omega)

theorem fairW_len (S : Sy) (now : Int) (t : Nat) (x : Wr) (a : Nat) (l : List Wr) : (fairW S now t x a l).length = l.length := by
  unfold fairW
  cases l with
  | nil => rfl
  | cons y r =>
    show (if _ then _ else _ : List Wr).length = _
    split <;> rfl

theorem fairTo_self (S : Sy) (u : Wt) (t : Nat) (x : Wr) (k : Nat) : (fairTo S u t x k).runs t = u.runs t := by
  show (if t < k then fairW S u.now t x t (u.runs t) else u.runs t) = _
  rw [fairW_self]
  split <;> rfl

theorem fairTo_len (S : Sy) (u : Wt) (t : Nat) (x : Wr) (k a : Nat) : ((fairTo S u t x k).runs a).length = (u.runs a).length := by
  show (if a < k then fairW S u.now t x a (u.runs a) else u.runs a).length = _
  split
  · exact fairW_len ..
  · rfl

theorem fairTo_skip {S : Sy} {u : Wt} {t : Nat} {x : Wr} {k : Nat} (h : fairW S u.now t x k (u.runs k) = u.runs k) : fairTo S u t x (k + 1) = fairTo S u t x k := by
  unfold fairTo
  congr 1
  funext a
  by_cases e : a = k
  · subst e
    rw [if_pos (by omega), if_neg (by omega), h]
  · by_cases g : a < k
    · rw [if_pos (by omega), if_pos g]
    · rw [if_neg (by omega), if_neg g]

theorem fairTo_put {S : Sy} {u : Wt} {t : Nat} {x : Wr} {k : Nat} {y : Wr} {l : List Wr} (hy : u.runs k = y :: l) (hr : y.ready ≤ u.now) (hz : S.Z t < S.Z k) : fairTo S u t x (k + 1) = setR (fairTo S u t x k) k 0 { y with bk := (t : Int), fr := sectOf S.C (S.Z k) x.held x.since } := by
  have e0 := fairTo_at S u t x k
  have e1 : fairW S u.now t x k (u.runs k) = { y with bk := (t : Int), fr := sectOf S.C (S.Z k) x.held x.since } :: l := by
    rw [hy]
    exact if_pos ⟨hr, hz⟩
  show (⟨_, _, _, _, _⟩ : Wt) = ⟨_, _, _, _, _⟩
  congr 1
  funext a
  by_cases e : a = k
  · subst e
    show (if a < a + 1 then fairW S u.now t x a (u.runs a) else u.runs a) = upd _ _ _ a
    rw [upd_same, if_pos (by omega), e1, e0, hy]
    rfl
  · show (if a < k + 1 then fairW S u.now t x a (u.runs a) else u.runs a) = upd _ _ _ a
    rw [upd_other _ _ e]
    show _ = (if a < k then fairW S u.now t x a (u.runs a) else u.runs a)
    by_cases g : a < k
    · rw [if_pos (by omega), if_pos g]
    · rw [if_neg (by omega), if_neg g]

end Go.Proofs.YtdabcflpcklfiaaGreat

/- The law's fair, walked. -/
namespace Go.Proofs.YtdabcflpcklfiaaGreat
open Go.RowKit Cad

set_option maxRecDepth 100000 in
set_option maxHeartbeats 2000000 in
theorem fair_any {n kb b off cap pb po pc : Nat} {u : Wt} {dn : Nat → Nat} {Y : WL} {T : TD} {Z : Nat → Int} {w0 w : World} (h : WAt w w0.heap.size n kb (.slice (some ⟨b, off, none⟩) n cap) (.slice (some ⟨pb, po, none⟩) n pc) u dn Y) (hs : WSep n u dn Y) (hG : Good T n) (hP : PrioB Z n) (hb : b < w0.heap.size) (hpb : pb < w0.heap.size) (hT : TasksAt w0 b off n T) (hZ : IntsAt w0 pb po n Z) (hbel0 : Below w0.heap.size w0 w)
    {t : Nat} {x : Wr} {l : List Wr} (ht : t < n) (hx : u.runs t = x :: l) (hl8 : ∀ t, t < n → (u.runs t).length ≤ 8) (hlen : x.since.length = x.held.length) (hh16 : x.held.length ≤ 16) (hlk : ∀ r ∈ x.held, 0 ≤ r ∧ ∃ t, t < n ∧ Locks (T.K t) (T.N t) (T.L t) r)
    (hfair : ∀ a y l', a < n → u.runs a = y :: l' → y.ready ≤ u.now → Z t < Z a → 0 ≤ sectOf (sysOf T Z n).C (Z a) x.held x.since ∧ sectOf (sysOf T Z n).C (Z a) x.held x.since < y.ready ∧ (0 ≤ y.bk → y.bk = (t : Int) ∧ y.fr = sectOf (sysOf T Z n).C (Z a) x.held x.since)) :
    Calls Tryz.prog 31 #[.pointer (some ⟨Y.wb, 0, none⟩), .pointer (some ⟨Y.jb t (dn t), 0, none⟩)] w fun e w' => e = .returned (.bool true) ∧ ∃ Y', Y'.jb = Y.jb ∧ WMove w0.heap.size n kb (.slice (some ⟨b, off, none⟩) n cap) (.slice (some ⟨pb, po, none⟩) n pc) u (fairTo (sysOf T Z n) u t x n) dn dn Y Y' w w' := by
  have hn8 := hG.eight
  have hB := hbel0.size
  have HA : Hid (WAt w w0.heap.size n kb (.slice (some ⟨b, off, none⟩) n cap) (.slice (some ⟨pb, po, none⟩) n pc) u dn Y) := h
  have HSP : Hid (WSep n u dn Y) := hs
  have HG : Hid (Good T n) := hG
  have HP : Hid (PrioB Z n) := hP
  have HT : Hid (TasksAt w0 b off n T) := hT
  have HZ : Hid (IntsAt w0 pb po n Z) := hZ
  have HB0 : Hid (Below w0.heap.size w0 w) := hbel0
  have HXX : Hid (u.runs t = x :: l) := hx
  have HL8 : Hid (∀ t, t < n → (u.runs t).length ≤ 8) := hl8
  have HLK : Hid (∀ r ∈ x.held, 0 ≤ r ∧ ∃ t, t < n ∧ Locks (T.K t) (T.N t) (T.L t) r) := hlk
  have HFA : Hid (∀ a y l', a < n → u.runs a = y :: l' → y.ready ≤ u.now → Z t < Z a → 0 ≤ sectOf (sysOf T Z n).C (Z a) x.held x.since ∧ sectOf (sysOf T Z n).C (Z a) x.held x.since < y.ready ∧ (0 ≤ y.bk → y.bk = (t : Int) ∧ y.fr = sectOf (sysOf T Z n).C (Z a) x.held x.since)) := hfair
  clear h hs hG hP hT hZ hbel0 hx hl8 hlk hfair
  go_enter Tryz.func31, Tryz.ntmps31
  go_wp2_with fail
  go_loopw [5, 6, 7] (fun tv _ _ wr => ∃ (k : Nat) (Y' : WL), k ≤ n ∧ tv = .int .i64 k ∧ Y'.jb = Y.jb ∧ WMove w0.heap.size n kb (.slice (some ⟨b, off, none⟩) n cap) (.slice (some ⟨pb, po, none⟩) n pc) u (fairTo (sysOf T Z n) u t x k) dn dn Y Y' w wr) (fun tv _ _ _ => n - (intOf tv).toNat)
  case atStart =>
    refine ⟨0, Y, Nat.zero_le _, rfl, rfl, ?_⟩
    rw [fairTo_zero]
    exact WMove.refl HA.out HSP.out (Below.refl _ _)
  case round =>
    obtain ⟨k, Y1, hk, rfl, hY1, hM⟩ := hrel
    have HM : Hid (WMove w0.heap.size n kb (.slice (some ⟨b, off, none⟩) n cap) (.slice (some ⟨pb, po, none⟩) n pc) u (fairTo (sysOf T Z n) u t x k) dn dn Y Y1 w wr) := hM
    have HAr := hM.at'
    have HBr : Below w0.heap.size w0 wr := HB0.out.trans (hM.fr.below hB (fun i hi => (HA.out.foot_lt hi).1))
    have hwb := hM.wb
    obtain ⟨_, _, c2, c3, _⟩ := HAr.wc
    rw [hwb] at c2 c3
    have hwl := HAr.wrow.lt
    rw [hwb] at hwl
    have hrl := HAr.rrow.lt
    by_cases hlt : k < n
    · have hx0 : ((fairTo (sysOf T Z n) u t x k).runs t)[0]? = some x := by rw [fairTo_self, HXX.out]; rfl
      have hj := HAr.jrow t ht 0 x hx0
      simp only [Nat.add_zero] at hj
      rw [hY1] at hj
      have j0 : wr.cell? ⟨Y.jb t (dn t), 0, none⟩ = some (.int .i64 t) := hj.cell (by omega)
      have hjl := hj.lt
      have zk := IntsAt.below HZ.out hpb HBr k hlt
      have zt := IntsAt.below HZ.out hpb HBr t ht
      have hpl : pb < wr.heap.size := Nat.lt_of_lt_of_le hpb HBr.size
      have HFS : Hid (Calls Tryz.prog 29 #[.pointer (some ⟨Y.wb, 0, none⟩), .int .i64 k] wr fun e w' => e = .returned (.pointer (fstP (fairTo (sysOf T Z n) u t x k) dn Y1 k)) ∧ Below wr.heap.size wr w') := by
        unfold Hid
        rw [← hwb]
        exact first_run HAr hn8 hlt (by rw [fairTo_len]; exact HL8.out k hlt)
      have hrk := fairTo_at (sysOf T Z n) u t x k
      have hnw : (fairTo (sysOf T Z n) u t x k).now = u.now := rfl
      -- nobody waits
      by_cases hno : fstP (fairTo (sysOf T Z n) u t x k) dn Y1 k = none
      · have HFIN : Hid (fairTo (sysOf T Z n) u t x (k + 1) = fairTo (sysOf T Z n) u t x k) := by
          refine fairTo_skip ?_
          unfold fstP at hno
          rw [hrk, hnw] at hno
          cases hc : u.runs k with
          | nil => rfl
          | cons y r =>
            rw [hc] at hno
            by_cases g : y.ready ≤ u.now
            · simp only [if_pos g] at hno; cases hno
            · exact if_neg (fun e => g e.1)
        rw [hno] at HFS
        clear hM HAr HBr hno hj hrk hx0 hnw
        go_wp2_with fail
        refine (HFS.out).mono ?_
        rintro e w5 ⟨rfl, hb5⟩
        have HB5 : Hid (Below wr.heap.size wr w5) := hb5
        clear hb5 HFS
        go_wp2_with fail
        go_quiet (fail)
        go_wp2
        go_roundw
        case rel =>
          refine ⟨k + 1, Y1, by omega, by go_num, hY1, ?_⟩
          rw [HFIN.out]
          exact (HM.out.below HB5.out).below (below_drewM (Below.refl _ _) _)
        case measure => simp [intOf]; omega
      · obtain ⟨y, l', hy, hry, hfs⟩ : ∃ y l', u.runs k = y :: l' ∧ y.ready ≤ u.now ∧ fstP (fairTo (sysOf T Z n) u t x k) dn Y1 k = some ⟨Y.jb k (dn k), 0, none⟩ := by
          unfold fstP at hno ⊢
          rw [hrk, hnw] at hno ⊢
          cases hc : u.runs k with
          | nil => rw [hc] at hno; exact absurd rfl hno
          | cons y r =>
            rw [hc] at hno
            by_cases g : y.ready ≤ u.now
            · exact ⟨y, r, rfl, g, by simp only [if_pos g, hY1]⟩
            · simp only [if_neg g] at hno; exact absurd trivial hno
        rw [hfs] at HFS
        have HY : Hid (u.runs k = y :: l') := hy
        by_cases hzz : Z k ≤ Z t
        · have HFIN : Hid (fairTo (sysOf T Z n) u t x (k + 1) = fairTo (sysOf T Z n) u t x k) := by
            refine fairTo_skip ?_
            rw [hy]
            exact if_neg (fun e => absurd e.2 (by show ¬ (Z t < Z k); omega))
          have bz : decide (Z k ≤ Z t) = true := decide_eq_true hzz
          clear hM HAr HBr hno hj hrk hx0 hnw hy hfs
          go_wp2_with fail
          refine (HFS.out).mono ?_
          rintro e w5 ⟨rfl, hb5⟩
          have HB5 : Hid (Below wr.heap.size wr w5) := hb5
          have c2' := (hb5.cell (p := ⟨Y.wb, 2, none⟩) hwl).trans c2
          have j0' := (hb5.cell (p := ⟨Y.jb t (dn t), 0, none⟩) hjl).trans j0
          have zk' := (hb5.cell (p := ⟨pb, po + k, none⟩) hpl).trans zk
          have zt' := (hb5.cell (p := ⟨pb, po + t, none⟩) hpl).trans zt
          have hs5 := hb5.size
          clear hb5 HFS c2 c3 j0 zk zt
          go_wp2_with fail
          go_quiet (fail)
          go_wp2
          go_roundw
          case rel =>
            refine ⟨k + 1, Y1, by omega, by go_num, hY1, ?_⟩
            rw [HFIN.out]
            exact (HM.out.below HB5.out).below (below_drewM (Below.refl _ _) _)
          case measure => simp [intOf]; omega
        · have bz : decide (Z k ≤ Z t) = false := decide_eq_false hzz
          have hyk : ((fairTo (sysOf T Z n) u t x k).runs k)[0]? = some y := by rw [hrk, hy]; rfl
          obtain ⟨f1, f2, f3⟩ := HFA.out k y l' hlt hy hry (by omega)
          have HPUT : Hid (fairTo (sysOf T Z n) u t x (k + 1) = setR (fairTo (sysOf T Z n) u t x k) k 0 { y with bk := (t : Int), fr := sectOf (sysOf T Z n).C (Z k) x.held x.since }) := fairTo_put hy hry (show Z t < Z k by omega)
          have HSEC : Hid (∀ w5, Below wr.heap.size wr w5 → Calls Tryz.prog 56 #[.pointer (some ⟨Y.wb, 0, none⟩), .pointer (some ⟨Y.jb t (dn t), 0, none⟩), .int .i64 (Z k)] w5 fun e w' => e = .returned (.int .i64 (sectOf (sysOf T Z n).C (Z k) x.held x.since)) ∧ Below w5.heap.size w5 w') := by
            intro w5 hb5
            have g := section_any (HAr.below hb5) HG.out HP.out (by have := hb5.size; have := HBr.size; omega) (by have := hb5.size; omega) (TasksAt.below HT.out hb (HBr.trans (hb5.mono HBr.size))) (IntsAt.below HZ.out hpb (HBr.trans (hb5.mono HBr.size))) ht hx0 hlen hh16 HLK.out (Z k)
            rw [hwb, hY1] at g
            exact g
          have hjk := HAr.jrow k hlt 0 y hyk
          simp only [Nat.add_zero] at hjk
          rw [hY1] at hjk
          have HJK : Hid (wr.rowIs (Y.jb k (dn k)) 80 8 (rcell k y fun c => Y1.V c k (dn k))) := hjk
          have hjkl := hjk.lt
          have HYK : Hid (((fairTo (sysOf T Z n) u t x k).runs k)[0]? = some y) := hyk
          generalize hsc : sectOf (sysOf T Z n).C (Z k) x.held x.since = sc at *
          clear hM HAr HBr hno hj hrk hx0 hnw hy hfs hyk hjk
          go_wp2_with fail
          refine (HFS.out).mono ?_
          rintro e w5 ⟨rfl, hb5⟩
          have HB5 : Hid (Below wr.heap.size wr w5) := hb5
          have c2' := (hb5.cell (p := ⟨Y.wb, 2, none⟩) hwl).trans c2
          have j0' := (hb5.cell (p := ⟨Y.jb t (dn t), 0, none⟩) hjl).trans j0
          have zk' := (hb5.cell (p := ⟨pb, po + k, none⟩) hpl).trans zk
          have zt' := (hb5.cell (p := ⟨pb, po + t, none⟩) hpl).trans zt
          have hs5 := hb5.size
          clear hb5 HFS c2 c3 j0 zk zt
          go_wp2_with fail
          go_quiet (fail)
          go_wp2_with fail
          refine (HSEC.out _ (below_drewM HB5.out _)).mono ?_
          rintro e w6 ⟨rfl, hb6⟩
          have hb6' : Below wr.heap.size wr w6 := (below_drewM HB5.out _).trans (hb6.mono HB5.out.size)
          have HB6 : Hid (Below wr.heap.size wr w6) := hb6'
          have HJ6 := HJK.out.of_block (hb6'.block _ hjkl)
          have r1 : w6.cell? ⟨Y.jb k (dn k), 1, none⟩ = some (.int .i64 y.ready) := HJ6.cell (by omega)
          have r6 : w6.cell? ⟨Y.jb k (dn k), 6, none⟩ = some (.int .i64 y.bk) := HJ6.cell (by omega)
          have r7 : w6.cell? ⟨Y.jb k (dn k), 7, none⟩ = some (.int .i64 y.fr) := HJ6.cell (by omega)
          have z6 := HJ6.frozen 6
          have z7 := HJ6.frozen 7
          have hjk6 := HJ6.lt
          have j06 : w6.cell? ⟨Y.jb t (dn t), 0, none⟩ = some (.int .i64 t) := (hb6.cell (p := ⟨Y.jb t (dn t), 0, none⟩) (Nat.lt_of_lt_of_le hjl HB5.out.size)).trans j0'
          have hs6 := hb6'.size
          have b0 : decide (sc < 0) = false := decide_eq_false (by omega)
          have b1 : decide (y.ready ≤ sc) = false := decide_eq_false (by omega)
          have HFIN : Hid (∀ nq, ∃ Y' : WL, Y'.jb = Y.jb ∧ WMove w0.heap.size n kb (.slice (some ⟨b, off, none⟩) n cap) (.slice (some ⟨pb, po, none⟩) n pc) u (fairTo (sysOf T Z n) u t x (k + 1)) dn dn Y Y' w (((w6.drewN nq).setCell ⟨Y.jb k (dn k), 6, none⟩ (.int .i64 t)).setCell ⟨Y.jb k (dn k), 7, none⟩ (.int .i64 sc))) := by
            intro nq
            have hm6 := HM.out.below (below_drewM hb6' nq)
            have g := hm6.at'.setBk hm6.sep hlt HYK.out t sc
            rw [hY1] at g
            rw [HPUT.out]
            exact ⟨setY Y1 k (dn k + 0) fun c => Y1.V c k (dn k + 0), hY1, hm6.trans g⟩
          clear hb6 hb6' HJ6 HSEC HB5 HJK HYK hsc
          by_cases hbk : 0 ≤ y.bk
          · obtain ⟨g1, g2⟩ := f3 hbk
            rw [g1] at r6
            rw [g2] at r7
            clear f3 g1 g2 hbk
            go_wp2_with fail
            go_quiet (fail)
            go_wp2
            go_roundw
            case rel =>
              obtain ⟨Y', g1, g2⟩ := HFIN.out nq
              exact ⟨k + 1, Y', by omega, by go_num, g1, g2⟩
            case measure => simp [intOf]; omega
          · have b2 : decide (0 ≤ y.bk) = false := decide_eq_false hbk
            clear f3
            go_wp2_with fail
            go_quiet (fail)
            go_wp2
            go_roundw
            case rel =>
              obtain ⟨Y', g1, g2⟩ := HFIN.out nq
              exact ⟨k + 1, Y', by omega, by go_num, g1, g2⟩
            case measure => simp [intOf]; omega
    · obtain rfl : k = n := by omega
      clear hM HAr HBr c2
      go_wp2
      go_ret
      exact ⟨rfl, Y1, hY1, HM.out⟩

end Go.Proofs.YtdabcflpcklfiaaGreat
