import Derived.Test.YtdabcflpcklfiaaGreatA15
import Derived.Deep.Slices
import Derived.Deep.SlicePairs
import Derived.SizedLaws
import Derived.Test.YtdabcflpcklfiaaGreatRows
import Derived.Test.YtdabcflpcklfiaaGreatA22
import Derived.ChangeSlices
import Derived.ProofKit
import Derived.OpenShut
/- A list of tasks that came in, opened: its cells, its programs' cells, and how much room they take. -/
namespace Go.Proofs.YtdabcflpcklfiaaGreat
open Go.RowKit Go.Deep Go.ChangeShapes Go.WideShapes

theorem Tryz.cells3 : Tryz.prog.cellsOf 3 = 1 := by kernel_rfl
theorem Tryz.cells75 : Tryz.prog.cellsOf 75 = 1 := by kernel_rfl
theorem Tryz.cells77 : Tryz.prog.cellsOf 77 = 4 := by kernel_rfl
theorem Tryz.cells86 : Tryz.prog.cellsOf 86 = 2 := by kernel_rfl
theorem Tryz.bytes77 : Tryz.prog.bytesOf 77 = 48 := by kernel_rfl
theorem Tryz.bytes86 : Tryz.prog.bytesOf 86 = 16 := by kernel_rfl

theorem weightsAll_mem {H : Type} {P : Program} {e : TypeId} {d : DataW H} {n : Nat} : ∀ {ds : List (DataW H)}, d ∈ ds → n ∈ d.weights P e → n ∈ DataW.weightsAll P e ds
  | [], h, _ => by cases h
  | a :: r, h, hn => by
    simp only [DataW.weightsAll, List.mem_append]
    rcases List.mem_cons.1 h with rfl | h
    · exact .inl hn
    · exact .inr (weightsAll_mem h hn)

/-- One task's numbers, its program's value, and the program's numbers. -/
structure TaskAt (W : World) (a : Addr) (p d j : Int) (A : Option Addr) (l c : Nat) (K N : Nat → Int) : Prop where
  c0 : W.cell? a = some (.int .i64 p)
  c1 : W.cell? (a.add 1) = some (.int .i64 d)
  c2 : W.cell? (a.add 2) = some (.int .i64 j)
  c3 : W.cell? (a.add 3) = some (.slice A l c)
  len : l * 16 ≤ reachBytes
  steps : 1 ≤ l → ∃ b off, A = some ⟨b, off, none⟩ ∧ ∀ q, q < l → W.cell? ⟨b, off + q * 2, none⟩ = some (.int .i64 (K q)) ∧ W.cell? ⟨b, off + q * 2 + 1, none⟩ = some (.int .i64 (N q))

theorem open_prog {H : Type} {enc : TypeId × Value → H} {W : World} {fuel : Nat} {v : Value} {x : DataW H × List MemPlace} (h : DataW.trod enc Tryz.prog W 0 (fun _ => true) true fuel 75 [v] = some x) (hr : ∀ n ∈ x.1.weights Tryz.prog 75, n ≤ reachBytes) :
    ∃ (A : Option Addr) (l c : Nat) (K N : Nat → Int), v = .slice A l c ∧ l * 16 ≤ reachBytes ∧
      (1 ≤ l → ∃ b off, A = some ⟨b, off, none⟩ ∧ ∀ q, q < l → W.cell? ⟨b, off + q * 2, none⟩ = some (.int .i64 (K q)) ∧ W.cell? ⟨b, off + q * 2 + 1, none⟩ = some (.int .i64 (N q))) := by
  rcases open_slice_pairs Tryz.underlying75 Tryz.underlying86 Tryz.cells86 rfl rfl Tryz.cells3 Tryz.cells3 h with ⟨hv, _⟩ | ⟨a, l, c, m, n, V0, V1, D0, D1, P0, P1, hv, _, hlc, _, hm, rfl, hx⟩
  · cases hv
    exact ⟨none, 0, 0, fun _ => 0, fun _ => 0, rfl, by decide, fun h => by omega⟩
  · simp only [if_true] at hm
    have hm2 := hm.symm
    subst hm2
    have each : ∀ q, q < c → ∃ z : Int × Int, V0 q = .int .i64 z.1 ∧ V1 q = .int .i64 z.2 := by
      intro q hq
      obtain ⟨_, _, t0, t1⟩ := hx q hq
      obtain ⟨k, e0, _⟩ := DataW.trod_int Tryz.underlying3 t0
      obtain ⟨nn, e1, _⟩ := DataW.trod_int Tryz.underlying3 t1
      simp at e0 e1
      exact ⟨(k, nn), e0, e1⟩
    obtain ⟨z, hz⟩ := choose_lt each
    refine ⟨some a, l, c, fun q => (z q).1, fun q => (z q).2, by simpa using hv, ?_, fun h1 => ?_⟩
    · have := hr ((l + (c - l)) * Tryz.prog.bytesOf 86) (by simp [DataW.weights, Tryz.underlying75])
      rw [Tryz.bytes86] at this
      omega
    · obtain ⟨b, off, spot⟩ := a
      have hspot : spot = none := by simpa [Addr.add] using World.cell?_spot (hx 0 (by omega)).1
      subst hspot
      refine ⟨b, off, rfl, fun q hq => ?_⟩
      obtain ⟨c0, c1, _, _⟩ := hx q (by omega)
      rw [Addr.add_lit] at c0
      rw [Addr.add_lit, ← Nat.add_assoc] at c1
      rw [c0, c1, (hz q (by omega)).1, (hz q (by omega)).2]
      exact ⟨rfl, rfl⟩

set_option maxRecDepth 100000 in
theorem open_tasks {H : Type} {enc : TypeId × Value → H} {W : World} {fuel : Nat} {v : Value} {x : DataW H × List MemPlace} (h : DataW.trod enc Tryz.prog W 0 (fun _ => true) true fuel 22 [v] = some x) (hr : ∀ n ∈ x.1.weights Tryz.prog 22, n ≤ reachBytes) :
    ∃ (A : Option Addr) (n cap : Nat) (T : TD), v = .slice A n cap ∧ n * 48 ≤ reachBytes ∧
      (1 ≤ n → ∃ b off, A = some ⟨b, off, none⟩ ∧ ∀ i, i < n → TaskAt W ⟨b, off + i * 4, none⟩ (T.P i) (T.D i) (T.J i) (T.A i) (T.L i) (T.C i) (T.K i) (T.N i)) := by
  rcases open_slice Tryz.underlying22 h with ⟨hv, _⟩ | ⟨a, l, c, m, n, D, Pl, hv, _, hlc, _, hm, rfl, hx⟩
  · cases hv
    exact ⟨none, 0, 0, ⟨fun _ => 0, fun _ => 0, fun _ => 0, fun _ => none, fun _ => 0, fun _ => 0, fun _ _ => 0, fun _ _ => 0⟩, rfl, by decide, fun h => by omega⟩
  · simp only [if_true] at hm
    have hm2 := hm.symm
    subst hm2
    rw [Tryz.cells77] at hx
    have each : ∀ i, i < l → ∃ z : Int × Int × Int × Option Addr × Nat × Nat × (Nat → Int) × (Nat → Int), TaskAt W (a.add (i * 4)) z.1 z.2.1 z.2.2.1 z.2.2.2.1 z.2.2.2.2.1 z.2.2.2.2.2.1 z.2.2.2.2.2.2.1 z.2.2.2.2.2.2.2 := by
      intro i hi
      obtain ⟨cs', h1, h2⟩ := hx i (by omega)
      obtain ⟨_, hlen, hcell⟩ := World.cells?_some h1
      obtain ⟨xs, k, hk, hxy, _, hxl, hf⟩ := DataW.trod_struct Tryz.underlying77 h2
      match xs, hxl, cs', hlen with
      | [y0, y1, y2, y3], _, [v0, v1, v2, v3], _ =>
        have g0 := hf 0 _ rfl
        have g1 := hf 1 _ rfl
        have g2 := hf 2 _ rfl
        have g3 := hf 3 _ rfl
        simp [Tryz.cells3, Tryz.cells75] at g0 g1 g2 g3
        have q0 := hcell 0 (by omega)
        have q1 := hcell 1 (by omega)
        have q2 := hcell 2 (by omega)
        have q3 := hcell 3 (by omega)
        obtain ⟨n0, e0, _⟩ := DataW.trod_int Tryz.underlying3 g0
        obtain ⟨n1, e1, _⟩ := DataW.trod_int Tryz.underlying3 g1
        obtain ⟨n2, e2, _⟩ := DataW.trod_int Tryz.underlying3 g2
        simp at e0 e1 e2
        subst e0 e1 e2
        have hD : D i = .agg [y0.1, y1.1, y2.1, y3.1] := by simpa using (Prod.mk.injEq _ _ _ _ ▸ hxy).1
        obtain ⟨A, pl, pc, K, N, rfl, hpl, hst⟩ := open_prog g3 (fun n hn => hr n (by
          simp only [DataW.weights, Tryz.underlying22, List.mem_cons, List.mem_append]
          refine .inr (.inl (weightsAll_mem (d := D i) (List.mem_map.2 ⟨i, List.mem_range.2 hi, rfl⟩) ?_))
          rw [hD]
          simp only [DataW.weights, Tryz.underlying77]
          exact DataW.weights_mem_each (j := 3) (t := 75) rfl rfl n hn))
        exact ⟨(n0, n1, n2, A, pl, pc, K, N), by simpa [Addr.add] using q0, by simpa using q1, by simpa using q2, by simpa using q3, hpl, hst⟩
    obtain ⟨z, hz⟩ := choose_lt each
    refine ⟨some a, l, c, ⟨fun i => (z i).1, fun i => (z i).2.1, fun i => (z i).2.2.1, fun i => (z i).2.2.2.1, fun i => (z i).2.2.2.2.1, fun i => (z i).2.2.2.2.2.1, fun i => (z i).2.2.2.2.2.2.1, fun i => (z i).2.2.2.2.2.2.2⟩, by simpa using hv, ?_, fun h1 => ?_⟩
    · have := hr ((l + (c - l)) * Tryz.prog.bytesOf 77) (by simp [DataW.weights, Tryz.underlying22])
      rw [Tryz.bytes77] at this
      omega
    · obtain ⟨b, off, spot⟩ := a
      have hspot : spot = none := by
        have := World.cell?_spot (hz 0 (by omega)).c0
        simpa [Addr.add] using this
      subst hspot
      refine ⟨b, off, rfl, fun i hi => ?_⟩
      have := hz i hi
      rwa [Addr.add_lit] at this

end Go.Proofs.YtdabcflpcklfiaaGreat

/- A list of numbers that came in, opened; tasks that came in, as the walks take them. -/
namespace Go.Proofs.YtdabcflpcklfiaaGreat
open Go.ChangeShapes Go.WideShapes Go.ChangeAt Go.RowKit

theorem Tryz.ownN : ownKnob Tryz.prog.godebug = none := by kernel_rfl
theorem Tryz.laidOutN : laidOutB Tryz.prog = true := by kernel_rfl
theorem Tryz.bytesN : Tryz.prog.bytesOf 3 = 8 := by kernel_rfl

theorem reach_eqN : reachBytes = 140737488351232 := rfl

/-- A list of numbers that came in, opened. -/
theorem open_nums {H : Type} {enc : TypeId × Value → H} {W : World} {fuel : Nat} {v : Value} {x : DataW H × List MemPlace} (h : DataW.trod enc Tryz.prog W 0 (fun _ => true) true fuel 23 [v] = some x) (hr : ∀ n ∈ x.1.weights Tryz.prog 23, n ≤ reachBytes) :
    ∃ (A : Option Addr) (n cap : Nat) (Z : Nat → Int), v = .slice A n cap ∧ n * 8 ≤ reachBytes ∧ (1 ≤ n → ∃ b off, A = some ⟨b, off, none⟩ ∧ b < W.heap.size ∧ IntsAt W b off n Z) := by
  rcases open_ints Tryz.underlying23 Tryz.underlying3 Tryz.cells3 h with ⟨hv, _⟩ | ⟨a, l, c, zs, hv, _, hlc, _, hzl, rfl, hx, _⟩
  · cases hv
    exact ⟨none, 0, 0, fun _ => 0, rfl, by decide, fun h => by omega⟩
  · simp only [if_true] at hzl
    refine ⟨some a, l, c, fun i => zs.getD i 0, by simpa using hv, ?_, fun h1 => ?_⟩
    · have := hr (((lits .i64 (zs.take l)).length + (lits .i64 (zs.drop l)).length) * Tryz.prog.bytesOf 3) (by simp only [DataW.weights, Tryz.underlying23, List.mem_cons, List.mem_append]; exact .inl rfl)
      rw [Tryz.bytesN] at this
      simp [lits] at this
      omega
    · obtain ⟨b, off, spot⟩ := a
      have h0 := hx 0 (by omega)
      have hspot : spot = none := by simpa [Addr.add] using World.cell?_spot h0
      subst hspot
      refine ⟨b, off, rfl, ?_, fun i hi => ?_⟩
      · rw [Addr.add_lit] at h0
        exact World.block_lt_of_cell? W _ h0
      · have := hx i (by omega)
        rwa [Addr.add_lit] at this

end Go.Proofs.YtdabcflpcklfiaaGreat

namespace Go.Proofs.YtdabcflpcklfiaaGreat
open Go.RowKit

def z1 (_ : Nat) : Value := .int .i64 0
theorem zero_1 (q : Nat) : ((Value.int .i64 0).cells[q % (Value.int .i64 0).cells.size]!) = z1 q := by
  have hs : (Value.int .i64 0).cells = #[.int .i64 0] := rfl
  rw [hs]
  show (#[Value.int .i64 0][q % 1]!) = _
  rw [Nat.mod_one]
  rfl

def lenf (Z : Nat → Int) (n q : Nat) : Value := if q < n then .int .i64 (Z q) else z1 q

set_option maxRecDepth 100000 in
set_option maxHeartbeats 1000000 in
theorem lentInts_any (ao : Option Addr) (n cap : Nat) (Z : Nat → Int) (w : World) (hn : n * 8 ≤ 140737488351232) (hZ : 1 ≤ n → ∃ b off, ao = some ⟨b, off, none⟩ ∧ b < w.heap.size ∧ IntsAt w b off n Z) :
    Calls Tryz.prog 17 #[.slice ao n cap] w fun e w' => e = .returned (.slice (some ⟨w.heap.size, 0, none⟩) (n + 1) (n + 1)) ∧ w'.rowIs w.heap.size 3 (n + 1) (lenf Z n) ∧ Below w.heap.size w w' := by
  obtain ⟨i0, hi0, hz0, hz1, hz2⟩ := info_parts Tryz.info3
  have HZ : Hid (1 ≤ n → ∃ b off, ao = some ⟨b, off, none⟩ ∧ b < w.heap.size ∧ IntsAt w b off n Z) := hZ
  clear hZ
  go_enter Tryz.func17, Tryz.ntmps17
  go_wp2_with (at_make; refine wpList_make_is _ rfl _ _ 23 rfl 3 i0 _ 1 8 Tryz.underlying23 hi0 hz0 hz1 hz2 _ _ _ _ (n + 1) rfl rfl (by omega) (by omega) (by omega) (by omega) z1 zero_1 ?_)
  intro w1 hr1 hg1 hs1
  have HB1 : Hid (Below w.heap.size w w1) := (Below.refl _ _).grown hg1 (Nat.le_refl _) (fun k hk => by cases hk)
  have HR1 : Hid (w1.rowIs w.heap.size 3 ((n + 1) * 1) z1) := by unfold Hid; rw [Nat.mul_one]; exact hr1
  have HS1 : Hid (w1.heap.size = w.heap.size + 1) := hs1
  have HSRC : Hid (1 ≤ n → ∃ b off, ao = some ⟨b, off, none⟩ ∧ ∀ q, q < n * 1 → w1.cell? ⟨b, off + q, none⟩ = some (.int .i64 (Z q))) := fun h1 => by
    obtain ⟨b, off, e, hb, hz⟩ := HZ.out h1
    exact ⟨b, off, e, fun q hq => IntsAt.below hz hb HB1.out q (by omega)⟩
  clear hr1 hg1 hs1
  go_wp2_with (refine wpList_copy_is _ rfl _ _ 23 23 rfl 3 i0 1 Tryz.underlying23 hi0 hz1 w.heap.size _ _ _ _ _ rfl rfl 3 ((n + 1) * 1) z1 HR1.out (fun q => .int .i64 (Z q)) (by omega) (by omega) HSRC.out (fun q _ => rfl) ?_)
  intro w2 hr2 hg2 hs2
  have HR2 : Hid (w2.rowIs w.heap.size 3 (n + 1) (lenf Z n)) := hr2
  have HB2 : Hid (Below w.heap.size w w2) := HB1.out.grown hg2 (by rw [HS1.out]; omega) (fun k hk => by cases hk; exact Nat.le_refl _)
  clear hr2 hg2 hs2
  go_wp2
  go_ret
  exact ⟨rfl, HR2.out, HB2.out⟩

set_option maxRecDepth 100000 in
set_option maxHeartbeats 1000000 in
theorem sameInts_any (ao bo : Option Addr) (n c1 c2 : Nat) (X : Nat → Int) (w : World) (hn : n ≤ 9223372036854775806)
    (hA : 1 ≤ n → ∃ b off, ao = some ⟨b, off, none⟩ ∧ IntsAt w b off n X) (hB : 1 ≤ n → ∃ b off, bo = some ⟨b, off, none⟩ ∧ IntsAt w b off n X) :
    Calls Tryz.prog 37 #[.slice ao n c1, .slice bo n c2] w fun e w' => e = .returned (.bool true) ∧ ∃ m, w' = w.drewN m := by
  have hd : ((n : Int) != (n : Int)) = false := by simp
  by_cases h1 : 1 ≤ n
  · obtain ⟨ab, aof, rfl, hA2⟩ := hA h1
    obtain ⟨bb, bof, rfl, hB2⟩ := hB h1
    clear hA hB
    have HA2 : Hid (IntsAt w ab aof n X) := hA2
    have HB2 : Hid (IntsAt w bb bof n X) := hB2
    clear hA2 hB2
    go_enter Tryz.func37, Tryz.ntmps37
    go_wp2
    go_loopw [5] (fun iv wr => ∃ i m : Nat, i ≤ n ∧ iv = .int .i64 i ∧ wr = w.drewN m) (fun iv _ => n - (intOf iv).toNat)
    case atStart => exact ⟨0, 0, Nat.zero_le _, rfl, rfl⟩
    case round =>
      obtain ⟨i, m, hi, rfl, rfl⟩ := hrel
      by_cases hlt : i < n
      · have ca := HA2.out i hlt
        have cb := HB2.out i hlt
        go_wp2
        go_quiet (fail)
        go_wp2
        go_roundw
        case rel => exact ⟨i + 1, _, by omega, by go_num, rfl⟩
        case measure => simp [intOf]; omega
      · go_wp2
        go_ret
        exact ⟨rfl, m, rfl⟩
  · obtain rfl : n = 0 := by omega
    clear hA hB
    go_enter Tryz.func37, Tryz.ntmps37
    go_wp2
    refine wp_loop_rounds 1 ?_
    rw [rounds_succ]
    go_wp2
    go_ret
    exact ⟨rfl, 0, rfl⟩

end Go.Proofs.YtdabcflpcklfiaaGreat

namespace Go.Proofs.YtdabcflpcklfiaaGreat
open Go.RowKit

theorem inter_congr {P J dm : Nat → Int} {h h' : Nat → Bool} {w : Int} : ∀ n, (∀ m, m < n → h m = h' m) → Cad.inter P J dm h w n = Cad.inter P J dm h' w n
  | 0, _ => rfl
  | n + 1, e => by
    simp only [Cad.inter]
    rw [inter_congr n (fun m hm => e m (by omega)), e n (by omega)]

/-- The program's bound is the document's. -/
theorem bound_ref {T : TD} {Z : Nat → Int} {n i : Nat} {s r s' r' : Int} (hG : Good T n) (hin : i < n) (hp : Cad.PrioB Z n)
    (hb : BcTo T (withI (abv Z n i) i) n n 0 s) (hr : Cad.IsBound (fun u => T.dm i + s + Cad.inter T.P T.J T.dm (abv Z n i) u n) (T.J i) (T.D i) r) (hm : Cad.IsMax (Cad.SRef T.K T.N T.L Z n i) s') (hr' : Cad.IsBound (fitF T Z n i s') (T.J i) (T.D i) r') : r = r' := by
  have hc : Cad.IsMax (Cad.SCode T.K T.N T.L Z n i) s := BcTo.fin (fun a ha => by
    unfold withI abv
    by_cases e : a = i
    · subst e; simp
    · simp [e, ha]) hb
  have hs : s' = s := Cad.blk_eq hG.prog hin (fun t ht => (hp.1 t ht).1) hp.2 hm hc
  subst hs
  have hf : (fun u => T.dm i + s' + Cad.inter T.P T.J T.dm (abv Z n i) u n) = fitF T Z n i s' := by
    funext u
    unfold fitF
    rw [inter_congr (h := abv Z n i) (h' := hiB Z i) n (fun m hm => by unfold abv hiB; rw [if_pos hm])]
  rw [hf] at hr
  exact Cad.isBound_unique hr hr'

/-- What a task's bound is, by the program. -/
def CodeB (T : TD) (Z : Nat → Int) (n i : Nat) (r : Int) : Prop := ∃ s, BcTo T (withI (abv Z n i) i) n n 0 s ∧ Cad.IsBound (fun u => T.dm i + s + Cad.inter T.P T.J T.dm (abv Z n i) u n) (T.J i) (T.D i) r

set_option maxRecDepth 100000 in
set_option maxHeartbeats 1000000 in
theorem both_err (b off n cap : Nat) (pv : Value) (T : TD) (x y : Int) (w : World) (hc : chkR T n = (x, y)) (hx : x ≠ 0) (hm : n ≤ 9223372036854775807) (hb : b < w.heap.size) (hT : TasksAt w b off n T) :
    Calls Tryz.prog 43 #[.slice (some ⟨b, off, none⟩) n cap, pv] w fun e w' => e = .returned (.tuple #[.int .i64 x, .int .i64 y]) ∧ Below w.heap.size w w' := by
  have HT : Hid (TasksAt w b off n T) := hT
  have HC : Hid (chkR T n = (x, y)) := hc
  have hd : (x != 0) = true := by simpa using hx
  clear hT hc hx
  go_enter Tryz.func43, Tryz.ntmps43
  go_wp2_with fail
  refine (check_all b off n cap T _ x y HC.out hm hb HT.out).mono ?_
  rintro e w1 ⟨rfl, hb1⟩
  go_wp2
  go_ret2
  exact ⟨rfl, hb1⟩

set_option maxRecDepth 100000 in
set_option maxHeartbeats 1000000 in
theorem both_ord (b off n cap : Nat) (ao : Option Addr) (pl pc : Nat) (T : TD) (w : World) (hc : chkR T n = (0, 0)) (hb : b < w.heap.size) (hT : TasksAt w b off n T)
    (ho : pl ≠ n ∨ ∃ pb po Z, ao = some ⟨pb, po, none⟩ ∧ pl = n ∧ pb < w.heap.size ∧ IntsAt w pb po n Z ∧ ¬ Cad.PrioB Z n) :
    Calls Tryz.prog 43 #[.slice (some ⟨b, off, none⟩) n cap, .slice ao pl pc] w fun e w' => e = .returned (.tuple #[.int .i64 4, .int .i64 0]) ∧ Below w.heap.size w w' := by
  have HT : Hid (TasksAt w b off n T) := hT
  have HC : Hid (chkR T n = (0, 0)) := hc
  have HO : Hid (pl ≠ n ∨ ∃ pb po Z, ao = some ⟨pb, po, none⟩ ∧ pl = n ∧ pb < w.heap.size ∧ IntsAt w pb po n Z ∧ ¬ Cad.PrioB Z n) := ho
  have h8 := (good_of_chk hc).1.eight
  have h1 := (good_of_chk hc).1.one
  clear hT hc ho
  go_enter Tryz.func43, Tryz.ntmps43
  go_wp2_with fail
  refine (check_all b off n cap T _ 0 0 HC.out (by omega) hb HT.out).mono ?_
  rintro e w1 ⟨rfl, hb1⟩
  have HB1 : Hid (Below w.heap.size w w1) := hb1
  clear hb1
  go_wp2_with fail
  have hcall : Calls Tryz.prog 70 #[.slice ao pl pc, .int .i64 n] w1 fun e w' => e = .returned (.bool false) ∧ Below w1.heap.size w1 w' := by
    rcases HO.out with hne | ⟨pb, po, Z, rfl, rfl, hpb, hZ, hno⟩
    · refine (prio_no ao pl pc n w1 hne).mono ?_
      rintro e w' ⟨rfl, rfl⟩
      exact ⟨rfl, Below.refl _ _⟩
    · exact prio_any pb po _ pc Z false w1 h1 h8 (by have := HB1.out.size; omega) (IntsAt.below hZ hpb HB1.out) (by simp [hno])
  refine hcall.mono ?_
  rintro e w2 ⟨rfl, hb2⟩
  have hbel : Below w.heap.size w w2 := HB1.out.trans (hb2.mono HB1.out.size)
  clear hcall
  go_wp2
  go_ret2
  exact ⟨rfl, hbel⟩

set_option maxRecDepth 100000 in
set_option maxHeartbeats 1000000 in
theorem both_ok (b off n cap pb po pc : Nat) (T : TD) (Z : Nat → Int) (w : World) (hc : chkR T n = (0, 0)) (hb : b < w.heap.size) (hpb : pb < w.heap.size) (hT : TasksAt w b off n T) (hZ : IntsAt w pb po n Z) (ho : Cad.PrioB Z n) :
    Calls Tryz.prog 43 #[.slice (some ⟨b, off, none⟩) n cap, .slice (some ⟨pb, po, none⟩) n pc] w fun e w' => e = .returned (.tuple #[.int .i64 0, .int .i64 0]) ∧ Below w.heap.size w w' := by
  have HT : Hid (TasksAt w b off n T) := hT
  have HZ : Hid (IntsAt w pb po n Z) := hZ
  have HC : Hid (chkR T n = (0, 0)) := hc
  have HO : Hid (Cad.PrioB Z n) := ho
  have h8 := (good_of_chk hc).1.eight
  have h1 := (good_of_chk hc).1.one
  clear hT hc ho hZ
  go_enter Tryz.func43, Tryz.ntmps43
  go_wp2_with fail
  refine (check_all b off n cap T _ 0 0 HC.out (by omega) hb HT.out).mono ?_
  rintro e w1 ⟨rfl, hb1⟩
  have HB1 : Hid (Below w.heap.size w w1) := hb1
  have hs1 := hb1.size
  clear hb1
  go_wp2_with fail
  refine (prio_any pb po n pc Z true _ h1 h8 (by omega) (IntsAt.below HZ.out hpb HB1.out) ⟨fun _ => HO.out, fun _ => rfl⟩).mono ?_
  rintro e w2 ⟨rfl, hb2⟩
  have hbel : Below w.heap.size w w2 := HB1.out.trans (hb2.mono hs1)
  go_wp2
  go_ret2
  exact ⟨rfl, hbel⟩

set_option maxRecDepth 100000 in
set_option maxHeartbeats 1000000 in
theorem ana_err (b off n cap : Nat) (pv : Value) (T : TD) (x y : Int) (w : World) (hc : chkR T n = (x, y)) (hx : x ≠ 0) (hm : n ≤ 9223372036854775807) (hb : b < w.heap.size) (hT : TasksAt w b off n T) :
    Calls Tryz.prog 35 #[.slice (some ⟨b, off, none⟩) n cap, pv] w fun e w' => e = .returned (.tuple #[.slice none 0 0, .int .i64 x, .int .i64 y]) ∧ Below w.heap.size w w' := by
  have HT : Hid (TasksAt w b off n T) := hT
  have HC : Hid (chkR T n = (x, y)) := hc
  have HX : Hid (x ≠ 0) := hx
  have hd : (x != 0) = true := by simpa using hx
  clear hT hc hx
  go_enter Tryz.func35, Tryz.ntmps35
  go_wp2_with fail
  refine (both_err b off n cap pv T x y _ HC.out HX.out hm hb HT.out).mono ?_
  rintro e w1 ⟨rfl, hb1⟩
  go_wp2
  go_ret3
  exact ⟨rfl, hb1⟩

set_option maxRecDepth 100000 in
set_option maxHeartbeats 1000000 in
theorem ana_ord (b off n cap : Nat) (ao : Option Addr) (pl pc : Nat) (T : TD) (w : World) (hc : chkR T n = (0, 0)) (hb : b < w.heap.size) (hT : TasksAt w b off n T)
    (ho : pl ≠ n ∨ ∃ pb po Z, ao = some ⟨pb, po, none⟩ ∧ pl = n ∧ pb < w.heap.size ∧ IntsAt w pb po n Z ∧ ¬ Cad.PrioB Z n) :
    Calls Tryz.prog 35 #[.slice (some ⟨b, off, none⟩) n cap, .slice ao pl pc] w fun e w' => e = .returned (.tuple #[.slice none 0 0, .int .i64 4, .int .i64 0]) ∧ Below w.heap.size w w' := by
  have HT : Hid (TasksAt w b off n T) := hT
  have HC : Hid (chkR T n = (0, 0)) := hc
  have HO : Hid (pl ≠ n ∨ ∃ pb po Z, ao = some ⟨pb, po, none⟩ ∧ pl = n ∧ pb < w.heap.size ∧ IntsAt w pb po n Z ∧ ¬ Cad.PrioB Z n) := ho
  clear hT hc ho
  go_enter Tryz.func35, Tryz.ntmps35
  go_wp2_with fail
  refine (both_ord b off n cap ao pl pc T _ HC.out hb HT.out HO.out).mono ?_
  rintro e w1 ⟨rfl, hb1⟩
  go_wp2
  go_ret3
  exact ⟨rfl, hb1⟩

set_option maxRecDepth 100000 in
set_option maxHeartbeats 2000000 in
theorem ana_ok (b off n cap pb po pc : Nat) (T : TD) (Z : Nat → Int) (w : World) (hc : chkR T n = (0, 0)) (hb : b < w.heap.size) (hpb : pb < w.heap.size) (hT : TasksAt w b off n T) (hZ : IntsAt w pb po n Z) (ho : Cad.PrioB Z n) :
    Calls Tryz.prog 35 #[.slice (some ⟨b, off, none⟩) n cap, .slice (some ⟨pb, po, none⟩) n pc] w fun e w' => ∃ (g : Nat) (R : Nat → Int), e = .returned (.tuple #[.slice (some ⟨g, 0, none⟩) n n, .int .i64 0, .int .i64 0]) ∧ w.heap.size ≤ g ∧ w'.rowIs g 3 n (fun q => .int .i64 (R q)) ∧ (∀ i, i < n → CodeB T Z n i (R i)) ∧ Below w.heap.size w w' := by
  obtain ⟨i0, hi0, hz0, hz1, hz2⟩ := info_parts Tryz.info3
  have HT : Hid (TasksAt w b off n T) := hT
  have HZ : Hid (IntsAt w pb po n Z) := hZ
  have HC : Hid (chkR T n = (0, 0)) := hc
  have HO : Hid (Cad.PrioB Z n) := ho
  have hg := (good_of_chk hc).1
  have h8 := hg.eight
  have h1 := hg.one
  have HG : Hid (Good T n) := hg
  clear hT hc ho hZ hg
  go_enter Tryz.func35, Tryz.ntmps35
  go_wp2_with fail
  refine (both_ok b off n cap pb po pc T Z _ HC.out hb hpb HT.out HZ.out HO.out).mono ?_
  rintro e w2 ⟨rfl, hb2⟩
  have hs2 := hb2.size
  have HB2 : Hid (Below w.heap.size w w2) := hb2
  clear hb2
  go_wp2_with fail
  refine (of_any b off n cap T _ HG.out (by omega) (TasksAt.below HT.out hb HB2.out)).mono ?_
  rintro e w3 ⟨rfl, hsys, hlt3, hb3⟩
  have HS3 : Hid (SysAt w3 w2.heap.size n T) := hsys
  have HB3 : Hid (Below w.heap.size w w3) := HB2.out.trans (hb3.mono (by omega))
  clear hsys hb3
  go_wp2_with (at_make; refine wpList_make_is _ rfl _ _ 23 rfl 3 i0 _ 1 8 Tryz.underlying23 hi0 hz0 hz1 hz2 _ _ _ _ n rfl rfl (by omega) (by omega) (by omega) (by omega) z1 zero_1 ?_)
  intro w4 hr4 hg4 hs4
  have HB4 : Hid (Below w3.heap.size w3 w4) := (Below.refl _ _).grown hg4 (Nat.le_refl _) (fun k hk => by cases hk)
  have hs34 : w3.heap.size < w4.heap.size := by omega
  have HR4 : Hid (w4.rowIs w3.heap.size 3 n z1) := by unfold Hid; simpa using hr4
  clear hr4 hg4 hs4
  go_wp2
  go_loopw [29] (fun iv wr => ∃ (i : Nat) (R : Nat → Int), i ≤ n ∧ iv = .int .i64 i ∧ wr.rowIs w3.heap.size 3 n (fun q => .int .i64 (R q)) ∧ (∀ j, j < i → CodeB T Z n j (R j)) ∧ Below w3.heap.size w3 wr) (fun iv _ => n - (intOf iv).toNat)
  case atStart => exact ⟨0, fun _ => 0, Nat.zero_le _, rfl, HR4.out, fun j hj => by omega, HB4.out⟩
  case round =>
    obtain ⟨i, R, hi, rfl, hrow, hR, hbel⟩ := hrel
    have HR : Hid (∀ j, j < i → CodeB T Z n j (R j)) := hR
    clear hR
    have hl := hrow.lt
    have HBW : Hid (Below w.heap.size w wr) := HB3.out.trans (hbel.mono (by omega))
    by_cases hlt : i < n
    · have HROW : Hid (wr.rowIs w3.heap.size 3 n (fun q => .int .i64 (R q))) := hrow
      have HBE : Hid (Below w3.heap.size w3 wr) := hbel
      clear hrow hbel
      go_wp2_with fail
      refine (above_any pb po n pc i Z _ h8 hlt (by omega) (IntsAt.below HZ.out hpb HBW.out)).mono ?_
      rintro e w5 ⟨rfl, hb5⟩
      have HB5 : Hid (Below wr.heap.size wr w5) := hb5
      have hs5 := hb5.size
      clear hb5
      go_wp2_with fail
      refine (bound_any w2.heap.size n n i T (abv Z n i) _ HG.out hlt (by omega) ?_).mono ?_
      · exact SysAt.below (SysAt.below HS3.out hlt3 HBE.out) (by omega) HB5.out
      rintro e w6 ⟨s, r, rfl, hbc, hbd, hb6⟩
      have HCB : Hid (CodeB T Z n i r) := ⟨s, hbc, hbd⟩
      have hb56 : Below wr.heap.size wr w6 := HB5.out.trans (hb6.mono hs5)
      have hrow6 : w6.rowIs w3.heap.size 3 n (fun q => .int .i64 (R q)) := World.rowIs.of_block HROW.out (hb56.block _ hl)
      have x : w6.cell? ⟨w3.heap.size, i, none⟩ = some (.int .i64 (R i)) := hrow6.cell hlt
      have z : ∀ q, w6.frozen? ⟨w3.heap.size, q, none⟩ = false := fun q => hrow6.frozen q
      have FR : Hid ((w6.setCell ⟨w3.heap.size, i, none⟩ (.int .i64 r)).rowIs w3.heap.size 3 n (fun q => .int .i64 ((fun j => if j = i then r else R j) q))) := (hrow6.set i _).congr (fun q _ => by
        by_cases e : q = i
        · simp [e]
        · simp [e])
      have FB : Hid (Below w3.heap.size w3 (w6.setCell ⟨w3.heap.size, i, none⟩ (.int .i64 r))) := (HBE.out.trans (hb56.mono (by omega))).setCell (Nat.le_refl _) _
      clear hbc hbd hb6 hb56 hrow6
      go_wp2
      go_roundw
      case rel => exact ⟨i + 1, _, by omega, by go_num, FR.out, fun j hj => by
        by_cases e : j = i
        · subst e; simp only [if_true]; exact HCB.out
        · simp only [e, if_false]; exact HR.out j (by omega), FB.out⟩
      case measure => simp [intOf]; omega
    · obtain rfl : i = n := by omega
      go_wp2
      go_ret3
      exact ⟨_, R, rfl, by omega, hrow, HR.out, HBW.out⟩
end Go.Proofs.YtdabcflpcklfiaaGreat
