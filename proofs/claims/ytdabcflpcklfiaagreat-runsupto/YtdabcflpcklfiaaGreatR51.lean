import Derived.Test.YtdabcflpcklfiaaGreatR50
/- The law: a script is played. -/
namespace Go.Proofs.YtdabcflpcklfiaaGreat
open Go.RowKit Cad

/-- A script, as numbers. -/
structure OD where
  K : Nat → Int
  A : Nat → Int
  B : Nat → Int
  P : Nat → Option Addr
  L : Nat → Nat
  C : Nat → Nat
  W : Nat → Bool
  R : Nat → Nat → Int

/-- A script in memory, all of it below B0. -/
def OpsAt (w : World) (B0 b off n : Nat) (X : OD) : Prop := ∀ i, i < n →
  w.cell? ⟨b, off + i * 5, none⟩ = some (.int .i64 (X.K i)) ∧ w.cell? ⟨b, off + i * 5 + 1, none⟩ = some (.int .i64 (X.A i)) ∧ w.cell? ⟨b, off + i * 5 + 2, none⟩ = some (.int .i64 (X.B i)) ∧ w.cell? ⟨b, off + i * 5 + 3, none⟩ = some (.slice (X.P i) (X.L i) (X.C i)) ∧ w.cell? ⟨b, off + i * 5 + 4, none⟩ = some (.bool (X.W i)) ∧
  X.L i * 8 ≤ 140737488351232 ∧ (1 ≤ X.L i → ∃ rb rf, X.P i = some ⟨rb, rf, none⟩ ∧ rb < B0 ∧ IntsAt w rb rf (X.L i) (X.R i))

/-- Where the play stands. -/
def PX (B0 r n Wb : Nat) (w0 w : World) (sb xb yb : Nat → Nat) (S : Nat → Sy) : Prop :=
  ∃ m FK FR M E V C last, PS B0 w0 w Wb n sb xb yb S m FK FR M E V C last ∧ (∀ i, i < n → BD r (m i) C last) ∧ (∀ i, i < 8 → (C i).length + 4 * r ≤ 1000000000)

theorem PX.below {B0 r n Wb : Nat} {w0 w w' : World} {sb xb yb : Nat → Nat} {S : Nat → Sy} (h : PX B0 r n Wb w0 w sb xb yb S) (hb : Below w.heap.size w w') : PX B0 r n Wb w0 w' sb xb yb S := by
  obtain ⟨m, FK, FR, M, E, V, C, last, hp, h1, h2⟩ := h
  exact ⟨m, FK, FR, M, E, V, C, last, hp.belowW hb, h1, h2⟩

theorem PX.kept {B0 r n Wb : Nat} {w0 w : World} {sb xb yb : Nat → Nat} {S : Nat → Sy} (h : PX B0 r n Wb w0 w sb xb yb S) : Calls Tryz.prog 22 #[.pointer (some ⟨Wb, 0, none⟩)] w fun e w' => e = .returned (.bool true) ∧ Below w.heap.size w w' := by
  obtain ⟨m, FK, FR, M, E, V, C, last, hp, h1, h2⟩ := h
  exact kept_any hp.lm hp.le (fun i hi => by have := h2 i hi; omega)

theorem PX.after {B0 r j n Wb i : Nat} {w0 w w' : World} {sb xb yb : Nat → Nat} {S : Nat → Sy} {m : Nat → Mc} {m' : Mc} {FK FR : Nat → Nat → Prop} {M E FK' FR' M' E' : Nat → Prop} {V V' : Nat → Value} {C C' : Nat → List Value} {last last' : Int} (hp : PS B0 w0 w Wb n sb xb yb S m FK FR M E V C last) (h1 : ∀ i, i < n → BD (r + j) (m i) C last) (h2 : ∀ i, i < 8 → (C i).length + 4 * (r + j) ≤ 1000000000) (hi : i < n)
    (g : SE j w w' Wb (xb i) (yb i) (S i) (m i) m' (FK i) (FR i) M E FK' FR' M' E' V V' C C' last last') : PX B0 r n Wb w0 w' sb xb yb S := by
  refine ⟨_, _, _, _, _, _, _, _, hp.step hi g, fun k hk => ?_, fun k hk => ?_⟩
  · have hb := (h1 i hi).after g
    by_cases e : k = i
    · subst e
      rw [upd_same]
      exact hb
    · rw [upd_other _ _ e]
      have hk' := h1 k hk
      exact ⟨by have := hk'.now; omega, by have := hk'.arr; omega, hb.len, hb.lo, hb.hi⟩
  · have := h2 k hk
    have := g.cl k hk
    omega

/-- The sides, as play finds them. -/
theorem PX.side {B0 r n Wb : Nat} {w0 w : World} {sb xb yb : Nat → Nat} {S : Nat → Sy} (h : PX B0 r n Wb w0 w sb xb yb S) : ∃ vo vc, w.cell? ⟨Wb, 0, none⟩ = some (.slice vo n vc) ∧ Wb < w.heap.size ∧ ∀ i, i < n → ∃ g, vo = some ⟨g, 0, none⟩ ∧ g < w.heap.size ∧ w.cell? ⟨g, i, none⟩ = some (.pointer (some ⟨sb i, 0, none⟩)) := by
  obtain ⟨m, FK, FR, M, E, V, C, last, hp, _, _⟩ := h
  have hl : (C 0).length = n := by rw [hp.sl]; simp
  obtain ⟨vo, vc, hv⟩ := hp.lm.shape (i := 0) (by omega)
  rw [hl] at hv
  refine ⟨vo, vc, by rw [hp.lm.cellW (by omega), hv], hp.lm.row.lt, fun i hi => ?_⟩
  obtain ⟨g, cap, hv', hg, hc⟩ := hp.lm.elem (i := 0) (j := i) (u := .pointer (some ⟨sb i, 0, none⟩)) (by omega) (by rw [hp.sl]; simp [hi])
  rw [hv] at hv'
  cases hv'
  exact ⟨g, rfl, hg, hc⟩

theorem px_step (hS : SortC) {B0 r n Wb t : Nat} {w0 w : World} {sb xb yb : Nat → Nat} {S : Nat → Sy} (h : PX B0 (r + 1) n Wb w0 w sb xb yb S) (ht : t < n) {k A B : Int} {ao : Option Addr} {l c : Nat} {wh : Bool} {R : Nat → Int} (hl : l * 8 ≤ 140737488351232) (hR : 1 ≤ l → ∃ rb rf, ao = some ⟨rb, rf, none⟩ ∧ rb < B0 ∧ IntsAt w0 rb rf l R) :
    Calls Tryz.prog 23 #[.pointer (some ⟨Wb, 0, none⟩), .pointer (some ⟨sb t, 0, none⟩), .agg #[.int .i64 k, .int .i64 A, .int .i64 B, .slice ao l c, .bool wh]] w fun e w' => e = .returned (.bool true) ∧ PX B0 r n Wb w0 w' sb xb yb S := by
  obtain ⟨m, FK, FR, M, E, V, C, last, hp, h1, h2⟩ := h
  have hbz := Nat.le_trans hp.base hp.below.size
  refine Calls.mono (step_any hS (hp.st t ht) ((h1 t ht).mono (by omega)) (hp.s0 t ht) (hp.s1 t ht) (fun q => ?_) (R := R) ⟨hl, fun g => ?_⟩) ?_
  · rcases q with q | q | q
    · exact hp.sn t t ht ht (.inl q)
    · exact hp.sn t t ht ht (.inr q)
    · exact hp.sm t ht q
  · obtain ⟨rb, rf, e1, e2, e3⟩ := hR g
    obtain ⟨q1, q2⟩ := hp.b0 rb e2
    refine ⟨rb, rf, e1, by omega, fun q hq => (hp.below.cell (p := ⟨rb, rf + q, none⟩) e2).trans (e3 q hq), fun q => ?_⟩
    rcases q with q | q | q
    · exact (q2 t ht).1 q
    · exact (q2 t ht).2 q
    · exact q1 q
  · rintro e w' ⟨he, m', FK', FR', M', E', V', C', last', g⟩
    exact ⟨he, PX.after hp h1 h2 ht g⟩

theorem px_ended (hS : SortC) {B0 r n Wb t : Nat} {w0 w : World} {sb xb yb : Nat → Nat} {S : Nat → Sy} (h : PX B0 (r + 12) n Wb w0 w sb xb yb S) (ht : t < n) :
    Calls Tryz.prog 24 #[.pointer (some ⟨Wb, 0, none⟩), .pointer (some ⟨sb t, 0, none⟩)] w fun e w' => e = .returned (.bool true) ∧ PX B0 r n Wb w0 w' sb xb yb S := by
  obtain ⟨m, FK, FR, M, E, V, C, last, hp, h1, h2⟩ := h
  refine Calls.mono (ended_any hS (s := r) ⟨hp.st t ht, hp.s0 t ht, hp.s1 t ht, fun q => ?_, h1 t ht⟩) ?_
  · rcases q with q | q | q
    · exact hp.sn t t ht ht (.inl q)
    · exact hp.sn t t ht ht (.inr q)
    · exact hp.sm t ht q
  · rintro e w' ⟨he, m', FK', FR', M', E', V', C', last', g, _⟩
    exact ⟨he, PX.after hp h1 h2 ht g⟩

set_option maxRecDepth 100000 in
set_option maxHeartbeats 8000000 in
theorem play_0 {B0 Wb r ns cap : Nat} {w0 w : World} {sb xb yb : Nat → Nat} {S : Nat → Sy} {ao : Option Addr} (h : PX B0 r 0 Wb w0 w sb xb yb S) :
    Calls Tryz.prog 7 #[.pointer (some ⟨Wb, 0, none⟩), .slice ao ns cap] w fun e w' => e = .returned (.bool true) ∧ PX B0 0 0 Wb w0 w' sb xb yb S := by
  have HP : Hid (PX B0 r 0 Wb w0 w sb xb yb S) := h
  obtain ⟨vo, vc, hv0, hwl, _⟩ := h.side
  clear h
  have HK : Hid _ := HP.out.kept
  go_enter Tryz.func7, Tryz.ntmps7
  go_wp2_with fail
  refine Calls.mono HK.out ?_
  rintro e w1 ⟨rfl, hb1⟩
  have HE : Hid (PX B0 0 0 Wb w0 w1 sb xb yb S) := by
    obtain ⟨m, FK, FR, M, E, V, C, last, hp, h1, h2⟩ := HP.out.below hb1
    exact ⟨m, FK, FR, M, E, V, C, last, hp, fun i hi => by omega, fun i hi => by have := h2 i hi; omega⟩
  clear hb1
  go_wp2
  go_ret
  exact ⟨rfl, HE.out⟩

set_option maxRecDepth 100000 in
set_option maxHeartbeats 8000000 in
theorem play_1 (hS : SortC) {B0 Wb b off ns cap : Nat} {w0 w : World} {sb xb yb : Nat → Nat} {S : Nat → Sy} {X : OD} {ao : Option Addr} (h : PX B0 (ns + 24) 1 Wb w0 w sb xb yb S) (hns : ns ≤ 100000000) (hao : 1 ≤ ns → ao = some ⟨b, off, none⟩ ∧ b < B0) (hB0 : B0 ≤ w0.heap.size) (hX : OpsAt w0 B0 b off ns X) :
    Calls Tryz.prog 7 #[.pointer (some ⟨Wb, 0, none⟩), .slice ao ns cap] w fun e w' => e = .returned (.bool true) ∧ PX B0 0 1 Wb w0 w' sb xb yb S := by
  have HP : Hid (PX B0 (ns + 24) 1 Wb w0 w sb xb yb S) := h
  have HX : Hid (OpsAt w0 B0 b off ns X) := hX
  obtain ⟨vo, vc, hv0, hwl, _⟩ := h.side
  clear h hX
  go_enter Tryz.func7, Tryz.ntmps7
  go_wp2_with fail
  clear hv0 hwl
  go_loopw [6] (fun iv wr => ∃ i : Nat, i ≤ ns ∧ iv = .int .i64 i ∧ PX B0 (ns - i + 24) 1 Wb w0 wr sb xb yb S) (fun iv _ => ns - (intOf iv).toNat)
  case atStart => exact ⟨0, Nat.zero_le _, rfl, HP.out⟩
  case round =>
    obtain ⟨i, hi, rfl, hp⟩ := hrel
    obtain ⟨vo, vc, hv0, hwl, hsd⟩ := hp.side
    have hbel : Below B0 w0 wr := by
      obtain ⟨m, FK, FR, M, E, V, C, last, hps, _, _⟩ := hp
      exact hps.below
    by_cases hlt : i < ns
    · obtain ⟨x0, x1, x2, x3, x4, hL8, hR⟩ := HX.out i hlt
      obtain ⟨rfl, hb⟩ := hao (by omega)
      have d0 : wr.cell? ⟨b, off + i * 5, none⟩ = some (.int .i64 (X.K i)) := (hbel.cell (p := ⟨b, off + i * 5, none⟩) hb).trans x0
      have d1 : wr.cell? ⟨b, off + i * 5 + 1, none⟩ = some (.int .i64 (X.A i)) := (hbel.cell (p := ⟨b, off + i * 5 + 1, none⟩) hb).trans x1
      have d2 : wr.cell? ⟨b, off + i * 5 + 2, none⟩ = some (.int .i64 (X.B i)) := (hbel.cell (p := ⟨b, off + i * 5 + 2, none⟩) hb).trans x2
      have d3 : wr.cell? ⟨b, off + i * 5 + 3, none⟩ = some (.slice (X.P i) (X.L i) (X.C i)) := (hbel.cell (p := ⟨b, off + i * 5 + 3, none⟩) hb).trans x3
      have d4 : wr.cell? ⟨b, off + i * 5 + 4, none⟩ = some (.bool (X.W i)) := (hbel.cell (p := ⟨b, off + i * 5 + 4, none⟩) hb).trans x4
      have hbr : b < wr.heap.size := Nat.lt_of_lt_of_le (by omega) hbel.size
      obtain ⟨g, rfl, hgl, hg0⟩ := hsd 0 (by omega)
      obtain ⟨g', e', _, hg1⟩ := hsd 0 (by omega)
      cases e'
      obtain ⟨W1, hW1⟩ : ∃ W1, W1 = wr.alloc (.cells #[.int .i64 (X.K i), .int .i64 (X.A i), .int .i64 (X.B i), .slice (X.P i) (X.L i) (X.C i), .bool (X.W i)] 64) := ⟨_, rfl⟩
      have hb1 : Below wr.heap.size wr W1 := by rw [hW1]; exact below_alloc1 _ _
      have hp1 : PX B0 (ns - i - 1 + 24 + 1) 1 Wb w0 W1 sb xb yb S := by
        have := hp.below hb1
        rw [show ns - i + 24 = ns - i - 1 + 24 + 1 by omega] at this
        exact this
      have HST : Hid (∀ t, t < 1 → Calls Tryz.prog 23 #[.pointer (some ⟨Wb, 0, none⟩), .pointer (some ⟨sb t, 0, none⟩), .agg #[.int .i64 (X.K i), .int .i64 (X.A i), .int .i64 (X.B i), .slice (X.P i) (X.L i) (X.C i), .bool (X.W i)]] W1 fun e w' => e = .returned (.bool true) ∧ PX B0 (ns - i - 1 + 24) 1 Wb w0 w' sb xb yb S) := fun t ht => px_step hS hp1 ht hL8 hR
      have HW1 : Hid (W1 = wr.alloc (.cells #[.int .i64 (X.K i), .int .i64 (X.A i), .int .i64 (X.B i), .slice (X.P i) (X.L i) (X.C i), .bool (X.W i)] 64)) := hW1
      clear hp hp1 hb1 hW1 x0 x1 x2 x3 x4 hR hbel hsd
      generalize hxk : X.K i = xk at *
      generalize hxa : X.A i = xa at *
      generalize hxb : X.B i = xbb at *
      generalize hxp : X.P i = xp at *
      generalize hxl : X.L i = xl at *
      generalize hxc : X.C i = xc at *
      clear hxk hxa hxb hxp hxl hxc
      cases hw : X.W i with
      | false =>
        rw [hw] at d4 HST HW1
        clear hw
        go_wp2_with fail
        rw [← HW1.out]
        refine Calls.mono (HST.out 0 (by omega)) ?_
        rintro e w1 ⟨rfl, hq1⟩
        have HQ1 : Hid (PX B0 (ns - i - 1 + 24) 1 Wb w0 w1 sb xb yb S) := hq1
        clear hq1 HST HW1
        go_wp2_with fail
        refine Calls.mono HQ1.out.kept ?_
        rintro e w2 ⟨rfl, hb2⟩
        have HQ2 : Hid (PX B0 (ns - i - 1 + 24) 1 Wb w0 w2 sb xb yb S) := HQ1.out.below hb2
        clear hb2 HQ1
        go_wp2
        go_roundw
        case rel => exact ⟨i + 1, by omega, by go_num, by rw [show ns - (i + 1) + 24 = ns - i - 1 + 24 by omega]; exact HQ2.out⟩
        case measure => simp [intOf]; omega
      | true =>
        rw [hw] at d4 HST HW1
        clear hw
        go_wp2_with fail
        rw [← HW1.out]
        refine Calls.mono (HST.out 0 (by omega)) ?_
        rintro e w1 ⟨rfl, hq1⟩
        have HQ1 : Hid (PX B0 (ns - i - 1 + 24) 1 Wb w0 w1 sb xb yb S) := hq1
        clear hq1 HST HW1
        go_wp2_with fail
        refine Calls.mono HQ1.out.kept ?_
        rintro e w2 ⟨rfl, hb2⟩
        have HQ2 : Hid (PX B0 (ns - i - 1 + 24) 1 Wb w0 w2 sb xb yb S) := HQ1.out.below hb2
        clear hb2 HQ1
        go_wp2
        go_roundw
        case rel => exact ⟨i + 1, by omega, by go_num, by rw [show ns - (i + 1) + 24 = ns - i - 1 + 24 by omega]; exact HQ2.out⟩
        case measure => simp [intOf]; omega
    · obtain rfl : i = ns := by omega
      have HP2 : Hid (PX B0 (24 - 12 * 0) 1 Wb w0 wr sb xb yb S) := by
        have := hp
        rw [show i - i + 24 = 24 - 12 * 0 by omega] at this
        exact this
      clear hp hsd hbel hv0 hwl
      go_wp2_with fail
      go_loopw [11] (fun iv wr => ∃ i : Nat, i ≤ 1 ∧ iv = .int .i64 i ∧ PX B0 (24 - 12 * i) 1 Wb w0 wr sb xb yb S) (fun iv _ => 1 - (intOf iv).toNat)
      case atStart => exact ⟨0, Nat.zero_le _, rfl, HP2.out⟩
      case round =>
        obtain ⟨k, hk, rfl, hp⟩ := hrel
        have HQ : Hid (PX B0 (24 - 12 * k) 1 Wb w0 wr sb xb yb S) := hp
        by_cases hkn : k < 1
        · obtain ⟨vo, vc, hv0, hwl, hsd⟩ := hp.side
          obtain ⟨g, rfl, hgl, hgk⟩ := hsd k hkn
          have HEN : Hid _ := px_ended hS (r := 24 - 12 * (k + 1)) (t := k) (by rw [show 24 - 12 * (k + 1) + 12 = 24 - 12 * k by omega]; exact HQ.out) hkn
          clear hsd hp
          go_wp2_with fail
          refine Calls.mono HEN.out ?_
          rintro e w1 ⟨rfl, hq1⟩
          have HQ1 : Hid (PX B0 (24 - 12 * (k + 1)) 1 Wb w0 w1 sb xb yb S) := hq1
          clear hq1 HEN
          go_wp2
          go_roundw
          case rel => exact ⟨k + 1, by omega, by go_num, HQ1.out⟩
          case measure => simp [intOf]; omega
        · obtain rfl : k = 1 := by omega
          clear hp
          go_wp2_with fail
          refine Calls.mono HQ.out.kept ?_
          rintro e w1 ⟨rfl, hb1⟩
          have HE : Hid (PX B0 0 1 Wb w0 w1 sb xb yb S) := by
            obtain ⟨m, FK, FR, M, E, V, C, last, hp, h1, h2⟩ := HQ.out.below hb1
            exact ⟨m, FK, FR, M, E, V, C, last, hp, fun i hi => (h1 i hi).mono (by omega), fun i hi => by have := h2 i hi; omega⟩
          clear hb1
          go_wp2
          go_ret
          exact ⟨rfl, HE.out⟩

end Go.Proofs.YtdabcflpcklfiaaGreat
