import Derived.Test.YtdabcflpcklfiaaGreatA16
namespace Go.Proofs.YtdabcflpcklfiaaGreat
open Go.RowKit

def TD.dm (T : TD) (j : Nat) : Int := Cad.demTo (T.K j) (T.N j) (T.L j)

/-- Tasks that may be: n of them. -/
structure Good (T : TD) (n : Nat) : Prop where
  one : 1 ≤ n
  eight : n ≤ 8
  prog : ∀ t, t < n → Cad.progB (T.K t) (T.N t) (T.L t) = true
  times : ∀ t, t < n → 1 ≤ T.P t ∧ T.P t ≤ 10000 ∧ 1 ≤ T.D t ∧ T.D t ≤ T.P t ∧ 0 ≤ T.J t ∧ T.J t ≤ T.D t

theorem Good.timesOk {T : TD} {n : Nat} (h : Good T n) : Cad.TimesOk T.P T.J T.dm n := fun j hj => by
  obtain ⟨a, b, c, d, e, f⟩ := h.times j hj
  have := Cad.dem_pos (h.prog j hj)
  exact ⟨a, e, by omega, by show 0 ≤ Cad.demTo _ _ _; omega, by show Cad.demTo _ _ _ ≤ _; omega⟩

theorem sref_bound {T : TD} {n i : Nat} {Z : Nat → Int} {s : Int} (hg : Good T n) (h : Cad.IsMax (Cad.SRef T.K T.N T.L Z n i) s) : 0 ≤ s ∧ s ≤ 1600 := by
  refine ⟨h.1, ?_⟩
  rcases h.2.1 with h0 | ⟨j, k, hj, _, hk, h2, _, hl⟩
  · omega
  · obtain ⟨e, _, _, hle⟩ := Cad.isLen_closed (hg.prog j hj) hk h2 hl
    have := (Cad.lon_le (r := T.N j k) (hg.prog j hj)).2
    omega

def hiB (Z : Nat → Int) (i j : Nat) : Bool := decide (Z i < Z j)

def fitF (T : TD) (Z : Nat → Int) (n i : Nat) (b w : Int) : Int := T.dm i + b + Cad.inter T.P T.J T.dm (hiB Z i) w n

theorem inter_step {T : TD} {Z : Nat → Int} {i j n : Nat} {w : Int} (hg : Good T n) (hj : j < n) (hw : 0 ≤ w) (h : Z i < Z j) :
    Cad.inter T.P T.J T.dm (hiB Z i) w (j + 1) = Cad.inter T.P T.J T.dm (hiB Z i) w j + ((w + T.J j) / T.P j + (if 0 < (w + T.J j) % T.P j then 1 else 0)) * T.dm j := by
  obtain ⟨p1, _, _, _, j0, _⟩ := hg.times j hj
  have hb : hiB Z i j = true := by simpa [hiB] using h
  simp only [Cad.inter]
  rw [if_pos hb, Cad.ceilD_ref (by omega) p1]

theorem inter_same {T : TD} {Z : Nat → Int} {i j : Nat} {w : Int} (h : ¬ Z i < Z j) : Cad.inter T.P T.J T.dm (hiB Z i) w (j + 1) = Cad.inter T.P T.J T.dm (hiB Z i) w j := by
  have hb : ¬ hiB Z i j = true := by simpa [hiB] using h
  simp only [Cad.inter]
  rw [if_neg hb]
  omega

theorem prod_bound {T : TD} {j n : Nat} {w : Int} {x : Int} (hg : Good T n) (hj : j < n) (hw : 0 ≤ w) (hw2 : w ≤ 20000) (hx : x = 0 ∨ x = 1) :
    0 ≤ (w + T.J j) / T.P j ∧ (w + T.J j) / T.P j ≤ 30000 ∧ 0 ≤ ((w + T.J j) / T.P j + x) * T.dm j ∧ ((w + T.J j) / T.P j + x) * T.dm j ≤ 49000000 := by
  obtain ⟨p1, _, _, _, j0, _⟩ := hg.times j hj
  obtain ⟨_, _, j1, d0, d1⟩ := hg.timesOk j hj
  have q0 : 0 ≤ (w + T.J j) / T.P j := Int.ediv_nonneg (by omega) (by omega)
  have q1 : (w + T.J j) / T.P j ≤ w + T.J j := Int.ediv_le_self _ (by omega)
  have m0 : 0 ≤ ((w + T.J j) / T.P j + x) * T.dm j := Int.mul_nonneg (by omega) d0
  have m1 : ((w + T.J j) / T.P j + x) * T.dm j ≤ 30001 * 1600 := Int.mul_le_mul (by omega) d1 d0 (by omega)
  exact ⟨q0, by omega, m0, by omega⟩

set_option maxRecDepth 100000 in
set_option maxHeartbeats 3000000 in
theorem refbound_any (b off n cap pb po pc i : Nat) (T : TD) (Z : Nat → Int) (w : World) (hg : Good T n) (hin : i < n) (hb : b < w.heap.size) (hpb : pb < w.heap.size) (hT : TasksAt w b off n T) (hZ : IntsAt w pb po n Z) (hz : ∀ t, t < n → 0 ≤ Z t) :
    Calls Tryz.prog 64 #[.slice (some ⟨b, off, none⟩) n cap, .slice (some ⟨pb, po, none⟩) n pc, .int .i64 i] w fun e w' => ∃ s r, e = .returned (.int .i64 r) ∧ Cad.IsMax (Cad.SRef T.K T.N T.L Z n i) s ∧ Cad.IsBound (fitF T Z n i s) (T.J i) (T.D i) r ∧ Below w.heap.size w w' := by
  have HT : Hid _ := hT
  have HZ : Hid _ := hZ
  have HG : Hid _ := hg
  have HZ0 : Hid _ := hz
  have h8 := hg.eight
  obtain ⟨c0, c1, c2, c3, hp⟩ := hT i hin
  have hL1 := (Cad.progB_inv (hg.prog i hin)).1
  obtain ⟨sb, so, hA, hsb, hst⟩ := hp.2 hL1
  rw [hA] at c3
  have HST : Hid _ := hst
  obtain ⟨tp1, tp2, td1, td2, tj1, tj2⟩ := hg.times i hin
  have hdm := Cad.dem_pos (hg.prog i hin)
  have HDM : Hid _ := hdm
  clear hT hZ hg hz hp hA hst hdm
  go_enter Tryz.func64, Tryz.ntmps64
  go_wp2_with fail
  have hba := below_alloc1 w (.cells #[.int .i64 (T.P i), .int .i64 (T.D i), .int .i64 (T.J i), .slice (some ⟨sb, so, none⟩) (T.L i) (T.C i)] 77)
  refine (blocked_any b off n cap pb po pc i T Z _ h8 hin ?_ ?_ (TasksAt.below HT.out hb hba) (IntsAt.below HZ.out hpb hba) HG.out.prog HZ0.out).mono ?_
  · simp; omega
  · simp; omega
  rintro e w2 ⟨s, rfl, hmax, hb2⟩
  have HMAX : Hid _ := hmax
  have hs := sref_bound HG.out hmax
  clear hmax
  have x1 : w2.cell? ⟨w.heap.size, 1, none⟩ = some (.int .i64 (T.D i)) := (hb2.cell (by simp)).trans (by simp)
  have x2 : w2.cell? ⟨w.heap.size, 2, none⟩ = some (.int .i64 (T.J i)) := (hb2.cell (by simp)).trans (by simp)
  have x3 : w2.cell? ⟨w.heap.size, 3, none⟩ = some (.slice (some ⟨sb, so, none⟩) (T.L i) (T.C i)) := (hb2.cell (by simp)).trans (by simp)
  have hbel2 : Below w.heap.size w w2 := hba.trans (hb2.mono (by simp))
  have hsz2 := hb2.size
  simp at hsz2
  have HBA : Hid _ := hba
  have HB2 : Hid _ := hbel2
  clear hba hb2 hbel2
  go_wp2_with fail
  refine (demand_any sb so (T.L i) (T.C i) (T.K i) (T.N i) _ (HG.out.prog i hin) (StepsAt.below HST.out hsb HB2.out)).mono ?_
  rintro e w3 ⟨rfl, hw3⟩
  obtain rfl := hw3.symm
  clear hw3 x3 c0 c1 c2 c3
  rw [show Cad.demTo (T.K i) (T.N i) (T.L i) = T.dm i from rfl]
  have hdm : 1 ≤ T.dm i ∧ T.dm i ≤ 1600 := HDM.out
  go_wp2_with fail
  go_loopw [10] (fun wv wr => ∃ u : Nat, 1 ≤ u ∧ (u : Int) + T.J i ≤ T.D i + 1 ∧ wv = .int .i64 u ∧ (∀ x : Int, 1 ≤ x → x < u → fitF T Z n i s x ≠ x) ∧ Below (w.heap.size + 1) w2 wr) (fun wv _ => 10002 - (intOf wv).toNat)
  case atStart => exact ⟨1, by omega, by omega, rfl, fun x h1 h2 => by omega, Below.refl _ _⟩
  case round =>
    obtain ⟨u, hu1, hu2, rfl, hno, hbel⟩ := hrel
    obtain ⟨wo, hwo⟩ : ∃ x, x = wr := ⟨_, rfl⟩
    subst hwo
    have HNO : Hid _ := hno
    clear hno
    have hszo := hbel.size
    have y1 : wo.cell? ⟨w.heap.size, 1, none⟩ = some (.int .i64 (T.D i)) := (hbel.cell (by simp)).trans x1
    have y2 : wo.cell? ⟨w.heap.size, 2, none⟩ = some (.int .i64 (T.J i)) := (hbel.cell (by simp)).trans x2
    have HBO : Hid (Below w.heap.size w wo) := HB2.out.trans (hbel.mono (by omega))
    have HBE : Hid _ := hbel
    clear hbel
    by_cases hle : (u : Int) + T.J i ≤ T.D i
    · go_wp2_with fail
      go_loopw [11, 12] (fun sv jv wr => ∃ j m : Nat, j ≤ n ∧ jv = .int .i64 j ∧ sv = .int .i64 (T.dm i + s + Cad.inter T.P T.J T.dm (hiB Z i) u j) ∧ wr = wo.drewN m) (fun _ jv _ => n - (intOf jv).toNat)
      case atStart => exact ⟨0, 0, Nat.zero_le _, rfl, by simp only [Cad.inter]; go_num, rfl⟩
      case round =>
        obtain ⟨j, m, hj, rfl, rfl, rfl⟩ := hrel
        have hib := Cad.inter_bound (hi := hiB Z i) HG.out.timesOk (w := (u : Int)) (by omega) (by omega) j hj
        by_cases hlt : j < n
        · obtain ⟨q0, q1, q2, q3, hp⟩ := TasksAt.below HT.out hb HBO.out j hlt
          have czj := IntsAt.below HZ.out hpb HBO.out j hlt
          have czi := IntsAt.below HZ.out hpb HBO.out i hin
          have hLj := (Cad.progB_inv (HG.out.prog j hlt)).1
          obtain ⟨db, dof, hA, hdb, hst⟩ := hp.2 hLj
          rw [hA] at q3
          have HSTJ : Hid _ := hst
          clear hp hA hst
          obtain ⟨jp1, jp2, jd1, jd2, jj1, jj2⟩ := HG.out.times j hlt
          by_cases hzz : Z i < Z j
          · have bzz : decide (Z i < Z j) = true := by simpa using hzz
            have HSTEP : Hid _ := inter_step (w := (u : Int)) HG.out hlt (by omega) hzz
            by_cases hrem : 0 < ((u : Int) + T.J j) % T.P j
            · have HS2 : Hid (Cad.inter T.P T.J T.dm (hiB Z i) u (j + 1) = Cad.inter T.P T.J T.dm (hiB Z i) u j + (((u : Int) + T.J j) / T.P j + 1) * T.dm j) := by have := HSTEP.out; rw [if_pos hrem] at this; exact this
              have hpr := prod_bound (w := (u : Int)) (x := 1) HG.out hlt (by omega) (by omega) (.inr rfl)
              go_wp2
              go_quiet (fail)
              go_wp2
              go_quiet (fail)
              go_wp2
              go_quiet (fail)
              go_wp2_with fail
              refine (demand_any db dof (T.L j) (T.C j) (T.K j) (T.N j) _ (HG.out.prog j hlt) ?_).mono ?_
              · exact HSTJ.out
              rintro e w4 ⟨rfl, hw4⟩
              obtain rfl := hw4.symm
              clear hw4
              rw [show Cad.demTo (T.K j) (T.N j) (T.L j) = T.dm j from rfl]
              go_wp2
              go_roundw
              case rel => exact ⟨j + 1, _, by omega, by go_num, by rw [HS2.out]; go_num, rfl⟩
              case measure => simp [intOf]; omega
            · have HS2 : Hid (Cad.inter T.P T.J T.dm (hiB Z i) u (j + 1) = Cad.inter T.P T.J T.dm (hiB Z i) u j + (((u : Int) + T.J j) / T.P j) * T.dm j) := by have := HSTEP.out; rw [if_neg hrem, Int.add_zero] at this; exact this
              have hpr := prod_bound (w := (u : Int)) (x := 0) HG.out hlt (by omega) (by omega) (.inl rfl)
              rw [Int.add_zero] at hpr
              go_wp2
              go_quiet (fail)
              go_wp2
              go_quiet (fail)
              go_wp2
              go_quiet (fail)
              go_wp2_with fail
              refine (demand_any db dof (T.L j) (T.C j) (T.K j) (T.N j) _ (HG.out.prog j hlt) ?_).mono ?_
              · exact HSTJ.out
              rintro e w4 ⟨rfl, hw4⟩
              obtain rfl := hw4.symm
              clear hw4
              rw [show Cad.demTo (T.K j) (T.N j) (T.L j) = T.dm j from rfl]
              go_wp2
              go_roundw
              case rel => exact ⟨j + 1, _, by omega, by go_num, by rw [HS2.out]; go_num, rfl⟩
              case measure => simp [intOf]; omega
          · have bzz : decide (Z i < Z j) = false := by simpa using hzz
            have HS2 : Hid _ := inter_same (T := T) (w := (u : Int)) hzz
            clear hzz
            go_wp2
            go_quiet (fail)
            go_wp2
            go_roundw
            case rel => exact ⟨j + 1, _, by omega, by go_num, by rw [HS2.out], rfl⟩
            case measure => simp [intOf]; omega
        · obtain rfl : j = n := by omega
          by_cases hfix : T.dm i + s + Cad.inter T.P T.J T.dm (hiB Z i) u j = (u : Int)
          · have bfix : (T.dm i + s + Cad.inter T.P T.J T.dm (hiB Z i) u j == (u : Int)) = true := by simpa using hfix
            have FIN : Hid (Cad.IsBound (fitF T Z j i s) (T.J i) (T.D i) (u + T.J i)) := .inl ⟨u, by omega, hle, hfix, HNO.out, rfl⟩
            clear hfix
            go_wp2
            go_ret
            exact ⟨s, _, rfl, HMAX.out, FIN.out, below_drewN HBO.out _⟩
          · have bfix : (T.dm i + s + Cad.inter T.P T.J T.dm (hiB Z i) u j == (u : Int)) = false := by simpa using hfix
            have HNX : Hid (fitF T Z j i s u ≠ u) := hfix
            clear hfix
            go_wp2
            go_roundw
            case rel => exact ⟨u + 1, by omega, by omega, by go_num, fun x h1 h2 => by
              by_cases e : x = (u : Int)
              · subst e; exact HNX.out
              · exact HNO.out x h1 (by omega), below_drewN HBE.out _⟩
            case measure => simp [intOf]; omega
    · have FIN : Hid (Cad.IsBound (fitF T Z n i s) (T.J i) (T.D i) 0) := .inr ⟨rfl, fun x h1 h2 => HNO.out x h1 (by omega)⟩
      go_wp2
      go_ret
      exact ⟨s, _, rfl, HMAX.out, FIN.out, HBO.out⟩
end Go.Proofs.YtdabcflpcklfiaaGreat
