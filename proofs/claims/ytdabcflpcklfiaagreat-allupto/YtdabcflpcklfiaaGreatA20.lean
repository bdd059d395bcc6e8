import Derived.Test.YtdabcflpcklfiaaGreatA19
import Derived.Deep.RegionWith
namespace Go.Proofs.YtdabcflpcklfiaaGreat
open Go.RowKit

theorem bc_bound {T : TD} {Rs : Nat → Bool} {n : Nat} {s : Int} (hG : Good T n) (h : BcTo T Rs n n 0 s) : 0 ≤ s ∧ s ≤ 1600 := by
  refine ⟨h.1, ?_⟩
  rcases h.2.1 with h0 | ⟨a, q, hh, _, _, e⟩
  · omega
  · have := (Cad.lon_le (r := (q : Int)) (hG.prog a (by omega))).2
    have e' : s = Cad.lonTo (T.K a) (T.N a) (q : Int) (T.L a) := e
    omega

/-- What the bound's search needs of memory. -/
structure BoundEnv (w W : World) (T : TD) (Hs : Nat → Bool) (i : Nat) : Prop where
  below : Below w.heap.size w W
  size : w.heap.size + 2 ≤ W.heap.size
  set : ∀ k, k < 8 → W.cell? ⟨w.heap.size, k, none⟩ = some (.bool (Hs k))
  d1 : W.cell? ⟨w.heap.size + 1, 1, none⟩ = some (.int .i64 (T.D i))
  d2 : W.cell? ⟨w.heap.size + 1, 2, none⟩ = some (.int .i64 (T.J i))
  d3 : W.cell? ⟨w.heap.size + 1, 3, none⟩ = some (.int .i64 (T.dm i))

theorem BoundEnv.later {w W W' : World} {T : TD} {Hs : Nat → Bool} {i : Nat} (h : BoundEnv w W T Hs i) (hb : Below (w.heap.size + 2) W W') : BoundEnv w W' T Hs i :=
  ⟨h.below.trans (hb.mono (by omega)), Nat.le_trans h.size hb.size, fun k hk => (hb.cell (by show w.heap.size < _; omega)).trans (h.set k hk),
    (hb.cell (by show w.heap.size + 1 < _; omega)).trans h.d1, (hb.cell (by show w.heap.size + 1 < _; omega)).trans h.d2, (hb.cell (by show w.heap.size + 1 < _; omega)).trans h.d3⟩

theorem boundEnv_made (w : World) (T : TD) (Hs : Nat → Bool) (i : Nat) : BoundEnv w ((w.alloc (.cells #[.bool (Hs 0), .bool (Hs 1), .bool (Hs 2), .bool (Hs 3), .bool (Hs 4), .bool (Hs 5), .bool (Hs 6), .bool (Hs 7)] 128)).alloc (.cells #[.int .i64 (T.P i), .int .i64 (T.D i), .int .i64 (T.J i), .int .i64 (T.dm i), .int .i64 (T.lon i 0), .int .i64 (T.lon i 1), .int .i64 (T.lon i 2), .int .i64 (T.lon i 3), .int .i64 (T.lon i 4), .int .i64 (T.lon i 5), .int .i64 (T.lon i 6), .int .i64 (T.lon i 7)] 168)) T Hs i := by
  have hr := (set_row w Hs).alloc (.cells #[.int .i64 (T.P i), .int .i64 (T.D i), .int .i64 (T.J i), .int .i64 (T.dm i), .int .i64 (T.lon i 0), .int .i64 (T.lon i 1), .int .i64 (T.lon i 2), .int .i64 (T.lon i 3), .int .i64 (T.lon i 4), .int .i64 (T.lon i 5), .int .i64 (T.lon i 6), .int .i64 (T.lon i 7)] 168)
  refine ⟨(below_alloc1 _ _).alloc (by simp) _, by simp, fun k hk => hr.cell hk, ?_, ?_, ?_⟩
  · simp
  · simp
  · simp

set_option maxRecDepth 100000 in
set_option maxHeartbeats 4000000 in
theorem bound_any (g n cap i : Nat) (T : TD) (Hs : Nat → Bool) (w : World) (hG : Good T n) (hin : i < n) (hg : g < w.heap.size) (hS : SysAt w g n T) :
    Calls Tryz.prog 61 #[.slice (some ⟨g, 0, none⟩) n cap, .int .i64 i, setV Hs] w fun e w' => ∃ s r, e = .returned (.int .i64 r) ∧ BcTo T (withI Hs i) n n 0 s ∧
      Cad.IsBound (fun u => T.dm i + s + Cad.inter T.P T.J T.dm Hs u n) (T.J i) (T.D i) r ∧ Below w.heap.size w w' := by
  have HS : Hid _ := hS
  have HG : Hid _ := hG
  have h8 := hG.eight
  have henv := boundEnv_made w T Hs i
  have HENV : Hid _ := henv
  obtain ⟨c0, c1, c2, c3, c4, c5, c6, c7, c8, c9, c10, c11⟩ := hS i hin
  obtain ⟨tp1, tp2, td1, td2, tj1, tj2⟩ := hG.times i hin
  obtain ⟨_, _, _, dm0, dm1⟩ := hG.timesOk i hin
  have hdm : 1 ≤ T.dm i ∧ T.dm i ≤ 1600 := Cad.dem_pos (hG.prog i hin)
  clear hS hG henv
  unfold setV
  go_enter Tryz.func61, Tryz.ntmps61
  go_wp2
  clear c0 c1 c2 c3 c4 c5 c6 c7 c8 c9 c10 c11
  generalize ((w.alloc (.cells #[.bool (Hs 0), .bool (Hs 1), .bool (Hs 2), .bool (Hs 3), .bool (Hs 4), .bool (Hs 5), .bool (Hs 6), .bool (Hs 7)] 128)).alloc (.cells #[.int .i64 (T.P i), .int .i64 (T.D i), .int .i64 (T.J i), .int .i64 (T.dm i), .int .i64 (T.lon i 0), .int .i64 (T.lon i 1), .int .i64 (T.lon i 2), .int .i64 (T.lon i 3), .int .i64 (T.lon i 4), .int .i64 (T.lon i 5), .int .i64 (T.lon i 6), .int .i64 (T.lon i 7)] 168)) = W at *
  have e0 := HENV.out.set 0 (by omega)
  have e1 := HENV.out.set 1 (by omega)
  have e2 := HENV.out.set 2 (by omega)
  have e3 := HENV.out.set 3 (by omega)
  have e4 := HENV.out.set 4 (by omega)
  have e5 := HENV.out.set 5 (by omega)
  have e6 := HENV.out.set 6 (by omega)
  have e7 := HENV.out.set 7 (by omega)
  have f3 := HENV.out.d3
  have hWs := HENV.out.size
  have HCALL : Hid (Calls Tryz.prog 93 #[.slice (some ⟨g, 0, none⟩) n cap, .int .i64 i, .agg #[.bool (Hs 0), .bool (Hs 1), .bool (Hs 2), .bool (Hs 3), .bool (Hs 4), .bool (Hs 5), .bool (Hs 6), .bool (Hs 7)]] W.drew fun e w' => ∃ s, e = .returned (.int .i64 s) ∧ BcTo T (withI Hs i) n n 0 s ∧ Below (w.heap.size + 2) W w' ∧ w'.cell? ⟨w.heap.size + 1, 3, none⟩ = some (.int .i64 (T.dm i))) := by
    unfold Hid
    refine (blocking_any g n cap i T Hs W.drew HG.out hin ?_ ?_).mono ?_
    · show g < W.heap.size; omega
    · exact SysAt.below HS.out hg (HENV.out.below.drew)
    · rintro e w' ⟨s, he, hbc, hb⟩
      have hb' : Below (w.heap.size + 2) W w' := (show Below (w.heap.size + 2) W W.drew from (Below.refl _ _).drew).trans (hb.mono (by show _ ≤ W.heap.size; omega))
      exact ⟨s, he, hbc, hb', (hb'.cell (by show w.heap.size + 1 < _; omega)).trans f3⟩
  go_region_with (go_at_call 93; refine (HCALL.out).mono ?_; rintro e w2 ⟨s, rfl, hbc, hb2, hx3⟩; have hs1 := (bc_bound HG.out hbc).1; have hs2 := (bc_bound HG.out hbc).2)
  all_goals
    have HBC : Hid (BcTo T (withI Hs i) n n 0 s) := hbc
    have HB2 : Hid (Below (w.heap.size + 2) W w2) := hb2
    have hmono : ∀ a b, a ≤ b → (fun u => T.dm i + s + Cad.inter T.P T.J T.dm Hs u n) a ≤ (fun u => T.dm i + s + Cad.inter T.P T.J T.dm Hs u n) b := fun a b hab => by
      have := Cad.inter_mono (hi := Hs) HG.out.timesOk hab n (Nat.le_refl _)
      show T.dm i + s + _ ≤ T.dm i + s + _
      omega
    have hinter0 : ∀ u, 0 ≤ u → 0 ≤ Cad.inter T.P T.J T.dm Hs u n := fun u hu => by
      have h1 := Cad.inter_mono (hi := Hs) HG.out.timesOk hu n (Nat.le_refl _)
      have h2 := (Cad.inter_bound (hi := Hs) HG.out.timesOk (w := 0) (by omega) (by omega) n (Nat.le_refl _)).1
      omega
    have HMONO : Hid _ := hmono
    have HUP0 : Hid (Cad.Up (fun u => T.dm i + s + Cad.inter T.P T.J T.dm Hs u n) (T.dm i + s)) := ⟨by omega, by have := hinter0 (T.dm i + s) (by omega); show _ ≤ T.dm i + s + _; omega, fun u h1 hu => by
      have := hinter0 u (by omega)
      have hu' : T.dm i + s + Cad.inter T.P T.J T.dm Hs u n = u := hu
      omega⟩
    clear hbc hb2 hmono hinter0 hx3 e0 e1 e2 e3 e4 e5 e6 e7 f3 HCALL
    go_wp2_with fail
    go_loopw [9] (fun uv wr => ∃ u : Int, uv = .int .i64 u ∧ Cad.Up (fun u => T.dm i + s + Cad.inter T.P T.J T.dm Hs u n) u ∧ u ≤ 400000000 ∧ Below (w.heap.size + 2) W wr) (fun uv _ => 10001 - (intOf uv).toNat)
    case atStart => exact ⟨_, rfl, HUP0.out, by omega, HB2.out⟩
    case round =>
      obtain ⟨u, rfl, hup, hu4, hbel⟩ := hrel
      have HUP : Hid (Cad.Up (fun u => T.dm i + s + Cad.inter T.P T.J T.dm Hs u n) u) := hup
      have hu1 := hup.one
      clear hup
      have ENV : Hid (BoundEnv w wr T Hs i) := BoundEnv.later HENV.out hbel
      have y1 := ENV.out.d1
      have y2 := ENV.out.d2
      have HBE : Hid (Below (w.heap.size + 2) W wr) := hbel
      clear hbel
      by_cases hle : u + T.J i ≤ T.D i
      · have e0 := ENV.out.set 0 (by omega)
        have e1 := ENV.out.set 1 (by omega)
        have e2 := ENV.out.set 2 (by omega)
        have e3 := ENV.out.set 3 (by omega)
        have e4 := ENV.out.set 4 (by omega)
        have e5 := ENV.out.set 5 (by omega)
        have e6 := ENV.out.set 6 (by omega)
        have e7 := ENV.out.set 7 (by omega)
        have hwrs := ENV.out.size
        go_wp2_with fail
        refine (interf_any g n cap T Hs u _ HG.out (by omega) (by omega) (by omega) (SysAt.below HS.out hg ENV.out.below)).mono ?_
        rintro e w5 ⟨rfl, hb5⟩
        have hbel5 : Below (w.heap.size + 2) W w5 := HBE.out.trans (hb5.mono hwrs)
        have ENV5 : Hid (BoundEnv w w5 T Hs i) := BoundEnv.later HENV.out hbel5
        have z2 := ENV5.out.d2
        have hib := Cad.inter_bound (hi := Hs) HG.out.timesOk (w := u) (by omega) (by omega) n (Nat.le_refl _)
        have hup2 := HUP.out.le
        have hup3 : u ≤ T.dm i + s + Cad.inter T.P T.J T.dm Hs u n := hup2
        clear hup2 e0 e1 e2 e3 e4 e5 e6 e7 y1 y2
        by_cases hfix : T.dm i + s + Cad.inter T.P T.J T.dm Hs u n = u
        · have bfix : (T.dm i + s + Cad.inter T.P T.J T.dm Hs u n == u) = true := by simpa using hfix
          have FIN : Hid (Cad.IsBound (fun u => T.dm i + s + Cad.inter T.P T.J T.dm Hs u n) (T.J i) (T.D i) (u + T.J i)) := HUP.out.found hle hfix
          clear hfix
          go_wp2
          go_ret
          exact ⟨s, _, rfl, HBC.out, FIN.out, ENV5.out.below⟩
        · have bfix : (T.dm i + s + Cad.inter T.P T.J T.dm Hs u n == u) = false := by simpa using hfix
          have HN : Hid (Cad.Up (fun u => T.dm i + s + Cad.inter T.P T.J T.dm Hs u n) (T.dm i + s + Cad.inter T.P T.J T.dm Hs u n)) := HUP.out.next HMONO.out
          have hltu : u < T.dm i + s + Cad.inter T.P T.J T.dm Hs u n := by omega
          clear hfix
          go_wp2
          go_roundw
          case rel => exact ⟨_, rfl, HN.out, by omega, hbel5⟩
          case measure => simp [intOf]; omega
      · have FIN : Hid (Cad.IsBound (fun u => T.dm i + s + Cad.inter T.P T.J T.dm Hs u n) (T.J i) (T.D i) 0) := HUP.out.late (by omega)
        go_wp2
        go_ret
        exact ⟨s, _, rfl, HBC.out, FIN.out, ENV.out.below⟩
end Go.Proofs.YtdabcflpcklfiaaGreat
