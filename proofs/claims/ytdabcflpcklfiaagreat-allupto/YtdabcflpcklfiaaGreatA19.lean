import Derived.Test.YtdabcflpcklfiaaGreatA18
namespace Go.Proofs.YtdabcflpcklfiaaGreat
open Go.RowKit

theorem inter_on {T : TD} {Hs : Nat → Bool} {j : Nat} {w : Int} (h : Hs j = true) : Cad.inter T.P T.J T.dm Hs w (j + 1) = Cad.inter T.P T.J T.dm Hs w j + Cad.ceilD (w + T.J j) (T.P j) * T.dm j := by
  simp only [Cad.inter]
  rw [if_pos h]

theorem inter_off {T : TD} {Hs : Nat → Bool} {j : Nat} {w : Int} (h : Hs j = false) : Cad.inter T.P T.J T.dm Hs w (j + 1) = Cad.inter T.P T.J T.dm Hs w j := by
  simp only [Cad.inter]
  rw [if_neg (by simp [h])]
  omega

set_option maxRecDepth 100000 in
set_option maxHeartbeats 2000000 in
theorem interf_any (g n cap : Nat) (T : TD) (Hs : Nat → Bool) (u : Int) (w : World) (hG : Good T n) (hu0 : 0 ≤ u) (hu1 : u ≤ 20000) (hg : g < w.heap.size) (hS : SysAt w g n T) :
    Calls Tryz.prog 94 #[.slice (some ⟨g, 0, none⟩) n cap, .int .i64 u, setV Hs] w fun e w' => e = .returned (.int .i64 (Cad.inter T.P T.J T.dm Hs u n)) ∧ Below w.heap.size w w' := by
  have HS : Hid _ := hS
  have HG : Hid _ := hG
  have h8 := hG.eight
  have hset := set_row w Hs
  have hba := below_alloc1 w (.cells #[.bool (Hs 0), .bool (Hs 1), .bool (Hs 2), .bool (Hs 3), .bool (Hs 4), .bool (Hs 5), .bool (Hs 6), .bool (Hs 7)] 128)
  have hsz0 : w.heap.size < (w.alloc (.cells #[.bool (Hs 0), .bool (Hs 1), .bool (Hs 2), .bool (Hs 3), .bool (Hs 4), .bool (Hs 5), .bool (Hs 6), .bool (Hs 7)] 128)).heap.size := hset.lt
  clear hS hG
  unfold setV
  go_enter Tryz.func94, Tryz.ntmps94
  go_wp2
  generalize (w.alloc (.cells #[.bool (Hs 0), .bool (Hs 1), .bool (Hs 2), .bool (Hs 3), .bool (Hs 4), .bool (Hs 5), .bool (Hs 6), .bool (Hs 7)] 128)) = W at *
  go_loopw [7, 12] (fun sv iv wr => ∃ i : Nat, i ≤ n ∧ iv = .int .i64 i ∧ sv = .int .i64 (Cad.inter T.P T.J T.dm Hs u i) ∧ Below (w.heap.size + 1) W wr) (fun _ iv _ => n - (intOf iv).toNat)
  case atStart => exact ⟨0, Nat.zero_le _, rfl, rfl, Below.refl _ _⟩
  case round =>
    obtain ⟨i, hi, rfl, rfl, hbel⟩ := hrel
    have hszw := hbel.size
    have HB0 : Hid (Below w.heap.size w wr) := hba.trans (hbel.mono (by omega))
    have hib := Cad.inter_bound (hi := Hs) HG.out.timesOk (w := u) hu0 hu1 i hi
    by_cases hlt : i < n
    · obtain ⟨c0, c1, c2, c3, c4, c5, c6, c7, c8, c9, c10, c11⟩ := SysAt.below HS.out hg HB0.out i hlt
      have hb : wr.cell? ⟨w.heap.size, i, none⟩ = some (.bool (Hs i)) := (hbel.cell (by simp)).trans (hset.cell (by omega))
      have hgw : g < wr.heap.size := by omega
      have hww : w.heap.size < wr.heap.size := by omega
      have HBE : ∀ o, Below (w.heap.size + 1) W (wr.alloc o) := fun o => hbel.alloc (by omega) o
      obtain ⟨jp1, jp2, jd1, jd2, jj1, jj2⟩ := HG.out.times i hlt
      have hib1 := Cad.inter_bound (hi := Hs) HG.out.timesOk (w := u) hu0 hu1 (i + 1) hlt
      cases hh : Hs i
      · have HI : Hid _ := inter_off (T := T) (w := u) hh
        rw [hh] at hb
        clear hh hib1
        go_wp2
        go_roundw
        case rel => exact ⟨i + 1, by omega, by go_num, by rw [HI.out], HBE _⟩
        case measure => simp [intOf]; omega
      · have HI : Hid _ := inter_on (T := T) (w := u) hh
        rw [hh] at hb
        rw [HI.out] at hib1
        clear hh
        have q0 := Cad.ceilD_nonneg (a := u + T.J i) (p := T.P i) (by omega) jp1
        have q1 := Cad.ceilD_le (a := u + T.J i) (p := T.P i) (by omega) jp1
        obtain ⟨_, _, _, d0, d1⟩ := HG.out.timesOk i hlt
        have m0 : 0 ≤ Cad.ceilD (u + T.J i) (T.P i) * T.dm i := Int.mul_nonneg q0 d0
        have m1 : Cad.ceilD (u + T.J i) (T.P i) * T.dm i ≤ 30000 * 1600 := Int.mul_le_mul (by omega) d1 d0 (by omega)
        go_wp2
        go_quiet ((go_at_call 122; exact Calls.quiet_of_same (rounded_any _ _ _ (by omega) (by omega) (by omega) (by omega))))
        go_wp2
        go_roundw
        case rel => exact ⟨i + 1, by omega, by go_num, by rw [HI.out], below_drewN (HBE _) _⟩
        case measure => simp [intOf]; omega
    · obtain rfl : i = n := by omega
      go_wp2
      go_ret
      exact ⟨rfl, HB0.out⟩
end Go.Proofs.YtdabcflpcklfiaaGreat

namespace Go.Proofs.YtdabcflpcklfiaaGreat
open Go.RowKit

/-- The world behind a name, at one operation. -/
theorem wpList_abs {P : Program} {w : World} {ops : Array Oper} {rest : List Oper} {o : Oper} {a : Act} {Q : Exit → Act → World → Prop} (t : TypeId) (x y : Operand) (_hop : o.op = Op.store t x y) (R : World → Prop) (hR : R w) (h : ∀ w', R w' → wpList P ops Q (o :: rest) a w') : wpList P ops Q (o :: rest) a w := h w hR

theorem index_run (l : Nat → Int) (k : Nat) (hk : k < 8) (w : World) : (Instr.index 139 (.agg #[.int .i64 (l 0), .int .i64 (l 1), .int .i64 (l 2), .int .i64 (l 3), .int .i64 (l 4), .int .i64 (l 5), .int .i64 (l 6), .int .i64 (l 7)]) (.int .i64 (k : Int))).run Tryz.prog w = .ok (.int .i64 (l k)) w :=
  match k, hk with
  | 0, _ => by kernel_rfl
  | 1, _ => by kernel_rfl
  | 2, _ => by kernel_rfl
  | 3, _ => by kernel_rfl
  | 4, _ => by kernel_rfl
  | 5, _ => by kernel_rfl
  | 6, _ => by kernel_rfl
  | 7, _ => by kernel_rfl

def SCTo (T : TD) (Rs : Nat → Bool) (n j r : Nat) (s : Int) : Prop := ∃ a q, (a < j ∧ q < 8 ∨ a = j ∧ q < r) ∧ Rs a = false ∧ LockedBy T Rs q n ∧ s = T.lon a q
def BcTo (T : TD) (Rs : Nat → Bool) (n j r : Nat) (b : Int) : Prop := Cad.IsMax (SCTo T Rs n j r) b

/-- The set with task i in it. -/
def withI (Hs : Nat → Bool) (i j : Nat) : Bool := if j = i then true else Hs j

theorem max_if (a b : Int) : (if a < b then b else a) = max a b := by
  by_cases h : a < b
  · rw [if_pos h, Int.max_eq_right (by omega)]
  · rw [if_neg h, Int.max_eq_left (by omega)]

theorem BcTo.start {T : TD} {Rs : Nat → Bool} {n : Nat} : BcTo T Rs n 0 0 0 := ⟨Int.le_refl _, .inl rfl, by rintro s ⟨a, q, h, _⟩; omega⟩

theorem BcTo.skip {T : TD} {Rs : Nat → Bool} {n j r : Nat} {b : Int} (h : BcTo T Rs n j r b) (hs : ¬ LockedBy T Rs r n) : BcTo T Rs n j (r + 1) b := by
  obtain ⟨h0, h1, h2⟩ := h
  refine ⟨h0, ?_, ?_⟩
  · rcases h1 with h1 | ⟨a, q, hh, e⟩
    · exact .inl h1
    · exact .inr ⟨a, q, by omega, e⟩
  · rintro s ⟨a, q, hh, e1, e2, e3⟩
    by_cases e : a = j ∧ q = r
    · obtain ⟨rfl, rfl⟩ := e
      exact absurd e2 hs
    · exact h2 s ⟨a, q, by omega, e1, e2, e3⟩

theorem BcTo.take {T : TD} {Rs : Nat → Bool} {n j r : Nat} {b : Int} (h : BcTo T Rs n j r b) (hj : Rs j = false) (hs : LockedBy T Rs r n) : BcTo T Rs n j (r + 1) (max b (T.lon j r)) := by
  obtain ⟨h0, h1, h2⟩ := h
  refine ⟨by have := Int.le_max_left b (T.lon j r); omega, ?_, ?_⟩
  · by_cases g : T.lon j r ≤ b
    · rw [Int.max_eq_left g]
      rcases h1 with h1 | ⟨a, q, hh, e⟩
      · exact .inl h1
      · exact .inr ⟨a, q, by omega, e⟩
    · rw [Int.max_eq_right (by omega)]
      exact .inr ⟨j, r, .inr ⟨rfl, by omega⟩, hj, hs, rfl⟩
  · rintro s ⟨a, q, hh, e1, e2, e3⟩
    by_cases e : a = j ∧ q = r
    · obtain ⟨rfl, rfl⟩ := e
      rw [e3]
      exact Int.le_max_right _ _
    · have := h2 s ⟨a, q, by omega, e1, e2, e3⟩
      have := Int.le_max_left b (T.lon j r)
      omega

theorem BcTo.next {T : TD} {Rs : Nat → Bool} {n j r : Nat} {b : Int} (h : BcTo T Rs n j r b) (hk : r = 8 ∨ r = 0 ∧ Rs j = true) : BcTo T Rs n (j + 1) 0 b := by
  obtain ⟨h0, h1, h2⟩ := h
  refine ⟨h0, ?_, ?_⟩
  · rcases h1 with h1 | ⟨a, q, hh, e⟩
    · exact .inl h1
    · exact .inr ⟨a, q, .inl (by omega), e⟩
  · rintro s ⟨a, q, hh, e1, e2⟩
    refine h2 s ⟨a, q, ?_, e1, e2⟩
    rcases hh with ⟨ha, hq⟩ | hh
    · by_cases e : a = j
      · subst e
        rcases hk with g | ⟨_, g⟩
        · exact .inr ⟨rfl, by omega⟩
        · rw [g] at e1; cases e1
      · exact .inl ⟨by omega, hq⟩
    · omega

theorem BcTo.fin {T : TD} {Rs : Nat → Bool} {Z : Nat → Int} {n i : Nat} {b : Int} (hR : ∀ a, a < n → (Rs a = true ↔ (Z i < Z a ∨ a = i))) (h : BcTo T Rs n n 0 b) : Cad.IsMax (Cad.SCode T.K T.N T.L Z n i) b := by
  obtain ⟨h0, h1, h2⟩ := h
  refine ⟨h0, ?_, ?_⟩
  · rcases h1 with h1 | ⟨a, q, hh, e1, ⟨t, ht, e2, e3⟩, e4⟩
    · exact .inl h1
    · have ha : a < n ∧ q < 8 := by omega
      have hnr : ¬ (Z i < Z a ∨ a = i) := fun g => by
        rw [(hR a ha.1).2 g] at e1
        cases e1
      exact .inr ⟨a, q, ha.1, hnr, by omega, by omega, ⟨t, ht, (hR t ht).1 e2, e3⟩, e4⟩
  · rintro s ⟨a, r, ha, hn, r0, r8, ⟨t, ht, e2, e3⟩, e4⟩
    obtain ⟨q, rfl⟩ : ∃ q : Nat, r = (q : Int) := ⟨r.toNat, by omega⟩
    refine h2 s ⟨a, q, .inl ⟨ha, by omega⟩, ?_, ⟨t, ht, (hR t ht).2 e2, e3⟩, e4⟩
    cases hh : Rs a
    · rfl
    · exact absurd ((hR a ha).1 hh) hn

set_option maxRecDepth 100000 in
set_option maxHeartbeats 4000000 in
theorem blocking_any (g n cap i : Nat) (T : TD) (Hs : Nat → Bool) (w : World) (hG : Good T n) (hin : i < n) (hg : g < w.heap.size) (hS : SysAt w g n T) :
    Calls Tryz.prog 93 #[.slice (some ⟨g, 0, none⟩) n cap, .int .i64 i, setV Hs] w fun e w' => ∃ s, e = .returned (.int .i64 s) ∧ BcTo T (withI Hs i) n n 0 s ∧ Below w.heap.size w w' := by
  have HS : Hid _ := hS
  have HG : Hid _ := hG
  have h8 := hG.eight
  have hset : ((w.alloc (.cells #[.bool (Hs 0), .bool (Hs 1), .bool (Hs 2), .bool (Hs 3), .bool (Hs 4), .bool (Hs 5), .bool (Hs 6), .bool (Hs 7)] 128)).alloc (.cells #[.bool (Hs 0), .bool (Hs 1), .bool (Hs 2), .bool (Hs 3), .bool (Hs 4), .bool (Hs 5), .bool (Hs 6), .bool (Hs 7)] 128)).rowIs (w.heap.size + 1) 128 8 (fun q => .bool (Hs q)) ∧ Below w.heap.size w ((w.alloc (.cells #[.bool (Hs 0), .bool (Hs 1), .bool (Hs 2), .bool (Hs 3), .bool (Hs 4), .bool (Hs 5), .bool (Hs 6), .bool (Hs 7)] 128)).alloc (.cells #[.bool (Hs 0), .bool (Hs 1), .bool (Hs 2), .bool (Hs 3), .bool (Hs 4), .bool (Hs 5), .bool (Hs 6), .bool (Hs 7)] 128)) := by
    have h := set_row (w.alloc (.cells #[.bool (Hs 0), .bool (Hs 1), .bool (Hs 2), .bool (Hs 3), .bool (Hs 4), .bool (Hs 5), .bool (Hs 6), .bool (Hs 7)] 128)) Hs
    rw [show (w.alloc (.cells #[.bool (Hs 0), .bool (Hs 1), .bool (Hs 2), .bool (Hs 3), .bool (Hs 4), .bool (Hs 5), .bool (Hs 6), .bool (Hs 7)] 128)).heap.size = w.heap.size + 1 from by simp] at h
    exact ⟨h, (below_alloc1 _ _).alloc (by simp) _⟩
  have HSET : Hid _ := hset
  clear hS hG hset
  unfold setV
  go_enter Tryz.func93, Tryz.ntmps93
  go_wp2_with (refine wpList_abs 4 (.tmp 15) (.const (.bool true)) rfl (fun w' => w'.rowIs (w.heap.size + 1) 128 8 (fun q => .bool (Hs q)) ∧ Below w.heap.size w w') HSET.out ?_)
  intro W0 hW0
  have hz0 : W0.frozen? ⟨w.heap.size + 1, i, none⟩ = false := hW0.1.frozen i
  have hc0 : W0.cell? ⟨w.heap.size + 1, i, none⟩ = some (.bool (Hs i)) := hW0.1.cell (by omega)
  have hset : (W0.setCell ⟨w.heap.size + 1, i, none⟩ (.bool true)).rowIs (w.heap.size + 1) 128 8 (fun q => .bool (withI Hs i q)) := (hW0.1.set i (.bool true)).congr (fun q _ => by
    unfold withI
    by_cases e : q = i
    · simp [e]
    · simp [e])
  have hba : Below w.heap.size w (W0.setCell ⟨w.heap.size + 1, i, none⟩ (.bool true)) := hW0.2.setCell (by show _ ≤ w.heap.size + 1; omega) _
  generalize hRs : withI Hs i = Rs at *
  have HRS : Hid _ := hRs
  clear hRs
  have HSE : Hid _ := hset
  have HBA : Hid _ := hba
  clear hset hba hW0
  go_wp2_with fail
  generalize (W0.setCell ⟨w.heap.size + 1, i, none⟩ (.bool true)) = W at *
  have hWs : w.heap.size + 1 < W.heap.size := World.rowIs.lt HSE.out
  clear hz0 hc0
  go_loopw [8, 18] (fun gv iv wr => ∃ (j : Nat) (c : Int), j ≤ n ∧ iv = .int .i64 j ∧ gv = .int .i64 c ∧ BcTo T Rs n j 0 c ∧ Below (w.heap.size + 2) W wr) (fun _ iv _ => n - (intOf iv).toNat)
  case atStart => exact ⟨0, 0, Nat.zero_le _, rfl, rfl, BcTo.start, Below.refl _ _⟩
  case round =>
    obtain ⟨j, c, hj, rfl, rfl, hbc, hbel⟩ := hrel
    obtain ⟨wo, hwo⟩ : ∃ x, x = wr := ⟨_, rfl⟩
    subst hwo
    have HBC : Hid _ := hbc
    clear hbc
    have hszw := hbel.size
    have HB0 : Hid (Below w.heap.size w wo) := HBA.out.trans (hbel.mono (by omega))
    by_cases hlt : j < n
    · obtain ⟨c0, c1, c2, c3, c4, c5, c6, c7, c8, c9, c10, c11⟩ := SysAt.below HS.out hg HB0.out j hlt
      have hb : wo.cell? ⟨w.heap.size + 1, j, none⟩ = some (.bool (Rs j)) := (hbel.cell (by show w.heap.size + 1 < _; omega)).trans (World.rowIs.cell HSE.out (by omega))
      have hgw : g < wo.heap.size := by omega
      have hww : w.heap.size + 1 < wo.heap.size := by omega
      have HBE : ∀ o, Below (w.heap.size + 2) W (wo.alloc o) := fun o => hbel.alloc (by omega) o
      cases hh : Rs j
      · rw [hh] at hb
        have HRJ : Hid _ := hh
        clear hh
        go_wp2_with fail
        clear c0 c1 c2 c3 c4 c5 c6 c7 c8 c9 c10 c11 hb
        go_loopw [8, 28] (fun gv rv wr => ∃ (r : Nat) (c : Int), r ≤ 8 ∧ rv = .int .i64 r ∧ gv = .int .i64 c ∧ BcTo T Rs n j r c ∧ Below (w.heap.size + 2) W wr) (fun _ rv _ => 8 - (intOf rv).toNat)
        case atStart => exact ⟨0, c, Nat.zero_le _, rfl, rfl, HBC.out, HBE _⟩
        case round =>
          obtain ⟨r, c', hr, rfl, rfl, hbc', hbel'⟩ := hrel
          have HBC' : Hid _ := hbc'
          clear hbc'
          have hszr := hbel'.size
          have HBR : Hid (Below w.heap.size w wr) := HBA.out.trans (hbel'.mono (by omega))
          by_cases hr8 : r < 8
          · have hidx := index_run (T.lon j) r hr8
            have e0 : wr.cell? ⟨w.heap.size + 1, 0, none⟩ = some (.bool (Rs 0)) := (hbel'.cell (by show w.heap.size + 1 < _; omega)).trans (World.rowIs.cell HSE.out (by omega))
            have e1 : wr.cell? ⟨w.heap.size + 1, 1, none⟩ = some (.bool (Rs 1)) := (hbel'.cell (by show w.heap.size + 1 < _; omega)).trans (World.rowIs.cell HSE.out (by omega))
            have e2 : wr.cell? ⟨w.heap.size + 1, 2, none⟩ = some (.bool (Rs 2)) := (hbel'.cell (by show w.heap.size + 1 < _; omega)).trans (World.rowIs.cell HSE.out (by omega))
            have e3 : wr.cell? ⟨w.heap.size + 1, 3, none⟩ = some (.bool (Rs 3)) := (hbel'.cell (by show w.heap.size + 1 < _; omega)).trans (World.rowIs.cell HSE.out (by omega))
            have e4 : wr.cell? ⟨w.heap.size + 1, 4, none⟩ = some (.bool (Rs 4)) := (hbel'.cell (by show w.heap.size + 1 < _; omega)).trans (World.rowIs.cell HSE.out (by omega))
            have e5 : wr.cell? ⟨w.heap.size + 1, 5, none⟩ = some (.bool (Rs 5)) := (hbel'.cell (by show w.heap.size + 1 < _; omega)).trans (World.rowIs.cell HSE.out (by omega))
            have e6 : wr.cell? ⟨w.heap.size + 1, 6, none⟩ = some (.bool (Rs 6)) := (hbel'.cell (by show w.heap.size + 1 < _; omega)).trans (World.rowIs.cell HSE.out (by omega))
            have e7 : wr.cell? ⟨w.heap.size + 1, 7, none⟩ = some (.bool (Rs 7)) := (hbel'.cell (by show w.heap.size + 1 < _; omega)).trans (World.rowIs.cell HSE.out (by omega))
            have hlk : ∃ t : Bool, t = true ↔ LockedBy T Rs r n := by
              by_cases h : LockedBy T Rs r n
              · exact ⟨true, by simp [h]⟩
              · exact ⟨false, by simp [h]⟩
            obtain ⟨t, ht⟩ := hlk
            have HTT : Hid _ := ht
            clear ht
            go_wp2_with fail
            refine (locked_any g n cap r T Rs t _ h8 hr8 (by omega) (SysAt.below HS.out hg HBR.out) HTT.out).mono ?_
            rintro e w5 ⟨rfl, hb5⟩
            have hbel5 : Below (w.heap.size + 2) W w5 := hbel'.trans (hb5.mono (by omega))
            clear e0 e1 e2 e3 e4 e5 e6 e7 hidx hb5
            cases t
            · have FIN : Hid _ := BcTo.skip HBC'.out (fun h => by have := HTT.out.2 h; cases this)
              go_wp2
              go_roundw
              case rel => exact ⟨r + 1, c', by omega, by go_num, rfl, FIN.out, hbel5⟩
              case measure => simp [intOf]; omega
            · have FIN : Hid _ := BcTo.take HBC'.out HRJ.out (HTT.out.1 rfl)
              go_wp2
              go_roundw
              case rel => exact ⟨r + 1, _, by omega, by go_num, rfl, by rw [max_if]; exact FIN.out, hbel5⟩
              case measure => simp [intOf]; omega
          · obtain rfl : r = 8 := by omega
            have FIN : Hid _ := BcTo.next HBC'.out (.inl rfl)
            go_wp2
            go_roundw
            case rel => exact ⟨j + 1, c', by omega, by go_num, rfl, FIN.out, hbel'⟩
            case measure => simp [intOf]; omega
      · rw [hh] at hb
        have FIN : Hid _ := BcTo.next HBC.out (.inr ⟨rfl, hh⟩)
        clear hh
        go_wp2
        go_roundw
        case rel => exact ⟨j + 1, c, by omega, by go_num, rfl, FIN.out, HBE _⟩
        case measure => simp [intOf]; omega
    · obtain rfl : j = n := by omega
      go_wp2
      go_ret
      exact ⟨_, rfl, by rw [HRS.out]; exact HBC.out, HB0.out⟩
end Go.Proofs.YtdabcflpcklfiaaGreat
