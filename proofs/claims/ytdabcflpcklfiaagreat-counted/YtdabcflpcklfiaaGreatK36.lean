import Derived.Test.YtdabcflpcklfiaaGreatK21
import Derived.Deep.Slices
import Derived.Deep.SlicePairs
import Derived.SizedLaws
import Derived.Test.YtdabcflpcklfiaaGreatRows
import Derived.Test.YtdabcflpcklfiaaGreatK26
import Derived.ChangeSlices
import Derived.ProofKit
import Derived.OpenShut
/- A list of tasks that came in, opened: its cells, its programs' cells, and how much room they take. -/
namespace Go.Proofs.YtdabcflpcklfiaaGreat
open Go.RowKit Go.Deep Go.ChangeShapes Go.WideShapes

theorem Tryz.cells3 : Tryz.prog.cellsOf 3 = 1 := by kernel_rfl
theorem Tryz.cells75 : Tryz.prog.cellsOf 75 = 1 := by kernel_rfl
theorem Tryz.cells77 : Tryz.prog.cellsOf 77 = 4 := by kernel_rfl
theorem Tryz.cells86 : Tryz.prog.cellsOf 86 = 2 := by kernel_rfl
theorem Tryz.bytes77 : Tryz.prog.bytesOf 77 = 48 := by kernel_rfl
theorem Tryz.bytes86 : Tryz.prog.bytesOf 86 = 16 := by kernel_rfl

theorem weightsAll_mem {H : Type} {P : Program} {e : TypeId} {d : DataW H} {n : Nat} : ∀ {ds : List (DataW H)}, d ∈ ds → n ∈ d.weights P e → n ∈ DataW.weightsAll P e ds
  | [], h, _ => by cases h
  | a :: r, h, hn => by
    simp only [DataW.weightsAll, List.mem_append]
    rcases List.mem_cons.1 h with rfl | h
    · exact .inl hn
    · exact .inr (weightsAll_mem h hn)

/-- One task's numbers, its program's value, and the program's numbers. -/
structure TaskAt (W : World) (a : Addr) (p d j : Int) (A : Option Addr) (l c : Nat) (K N : Nat → Int) : Prop where
  c0 : W.cell? a = some (.int .i64 p)
  c1 : W.cell? (a.add 1) = some (.int .i64 d)
  c2 : W.cell? (a.add 2) = some (.int .i64 j)
  c3 : W.cell? (a.add 3) = some (.slice A l c)
  len : l * 16 ≤ reachBytes
  steps : 1 ≤ l → ∃ b off, A = some ⟨b, off, none⟩ ∧ ∀ q, q < l → W.cell? ⟨b, off + q * 2, none⟩ = some (.int .i64 (K q)) ∧ W.cell? ⟨b, off + q * 2 + 1, none⟩ = some (.int .i64 (N q))

theorem open_prog {H : Type} {enc : TypeId × Value → H} {W : World} {fuel : Nat} {v : Value} {x : DataW H × List MemPlace} (h : DataW.trod enc Tryz.prog W 0 (fun _ => true) true fuel 75 [v] = some x) (hr : ∀ n ∈ x.1.weights Tryz.prog 75, n ≤ reachBytes) :
    ∃ (A : Option Addr) (l c : Nat) (K N : Nat → Int), v = .slice A l c ∧ l * 16 ≤ reachBytes ∧
      (1 ≤ l → ∃ b off, A = some ⟨b, off, none⟩ ∧ ∀ q, q < l → W.cell? ⟨b, off + q * 2, none⟩ = some (.int .i64 (K q)) ∧ W.cell? ⟨b, off + q * 2 + 1, none⟩ = some (.int .i64 (N q))) := by
  rcases open_slice_pairs Tryz.underlying75 Tryz.underlying86 Tryz.cells86 rfl rfl Tryz.cells3 Tryz.cells3 h with ⟨hv, _⟩ | ⟨a, l, c, m, n, V0, V1, D0, D1, P0, P1, hv, _, hlc, _, hm, rfl, hx⟩
  · cases hv
    exact ⟨none, 0, 0, fun _ => 0, fun _ => 0, rfl, by decide, fun h => by omega⟩
  · simp only [if_true] at hm
    have hm2 := hm.symm
    subst hm2
    have each : ∀ q, q < c → ∃ z : Int × Int, V0 q = .int .i64 z.1 ∧ V1 q = .int .i64 z.2 := by
      intro q hq
      obtain ⟨_, _, t0, t1⟩ := hx q hq
      obtain ⟨k, e0, _⟩ := DataW.trod_int Tryz.underlying3 t0
      obtain ⟨nn, e1, _⟩ := DataW.trod_int Tryz.underlying3 t1
      simp at e0 e1
      exact ⟨(k, nn), e0, e1⟩
    obtain ⟨z, hz⟩ := choose_lt each
    refine ⟨some a, l, c, fun q => (z q).1, fun q => (z q).2, by simpa using hv, ?_, fun h1 => ?_⟩
    · have := hr ((l + (c - l)) * Tryz.prog.bytesOf 86) (by simp [DataW.weights, Tryz.underlying75])
      rw [Tryz.bytes86] at this
      omega
    · obtain ⟨b, off, spot⟩ := a
      have hspot : spot = none := by simpa [Addr.add] using World.cell?_spot (hx 0 (by omega)).1
      subst hspot
      refine ⟨b, off, rfl, fun q hq => ?_⟩
      obtain ⟨c0, c1, _, _⟩ := hx q (by omega)
      rw [Addr.add_lit] at c0
      rw [Addr.add_lit, ← Nat.add_assoc] at c1
      rw [c0, c1, (hz q (by omega)).1, (hz q (by omega)).2]
      exact ⟨rfl, rfl⟩

set_option maxRecDepth 100000 in
theorem open_tasks {H : Type} {enc : TypeId × Value → H} {W : World} {fuel : Nat} {v : Value} {x : DataW H × List MemPlace} (h : DataW.trod enc Tryz.prog W 0 (fun _ => true) true fuel 22 [v] = some x) (hr : ∀ n ∈ x.1.weights Tryz.prog 22, n ≤ reachBytes) :
    ∃ (A : Option Addr) (n cap : Nat) (T : TD), v = .slice A n cap ∧ n * 48 ≤ reachBytes ∧
      (1 ≤ n → ∃ b off, A = some ⟨b, off, none⟩ ∧ ∀ i, i < n → TaskAt W ⟨b, off + i * 4, none⟩ (T.P i) (T.D i) (T.J i) (T.A i) (T.L i) (T.C i) (T.K i) (T.N i)) := by
  rcases open_slice Tryz.underlying22 h with ⟨hv, _⟩ | ⟨a, l, c, m, n, D, Pl, hv, _, hlc, _, hm, rfl, hx⟩
  · cases hv
    exact ⟨none, 0, 0, ⟨fun _ => 0, fun _ => 0, fun _ => 0, fun _ => none, fun _ => 0, fun _ => 0, fun _ _ => 0, fun _ _ => 0⟩, rfl, by decide, fun h => by omega⟩
  · simp only [if_true] at hm
    have hm2 := hm.symm
    subst hm2
    rw [Tryz.cells77] at hx
    have each : ∀ i, i < l → ∃ z : Int × Int × Int × Option Addr × Nat × Nat × (Nat → Int) × (Nat → Int), TaskAt W (a.add (i * 4)) z.1 z.2.1 z.2.2.1 z.2.2.2.1 z.2.2.2.2.1 z.2.2.2.2.2.1 z.2.2.2.2.2.2.1 z.2.2.2.2.2.2.2 := by
      intro i hi
      obtain ⟨cs', h1, h2⟩ := hx i (by omega)
      obtain ⟨_, hlen, hcell⟩ := World.cells?_some h1
      obtain ⟨xs, k, hk, hxy, _, hxl, hf⟩ := DataW.trod_struct Tryz.underlying77 h2
      match xs, hxl, cs', hlen with
      | [y0, y1, y2, y3], _, [v0, v1, v2, v3], _ =>
        have g0 := hf 0 _ rfl
        have g1 := hf 1 _ rfl
        have g2 := hf 2 _ rfl
        have g3 := hf 3 _ rfl
        simp [Tryz.cells3, Tryz.cells75] at g0 g1 g2 g3
        have q0 := hcell 0 (by omega)
        have q1 := hcell 1 (by omega)
        have q2 := hcell 2 (by omega)
        have q3 := hcell 3 (by omega)
        obtain ⟨n0, e0, _⟩ := DataW.trod_int Tryz.underlying3 g0
        obtain ⟨n1, e1, _⟩ := DataW.trod_int Tryz.underlying3 g1
        obtain ⟨n2, e2, _⟩ := DataW.trod_int Tryz.underlying3 g2
        simp at e0 e1 e2
        subst e0 e1 e2
        have hD : D i = .agg [y0.1, y1.1, y2.1, y3.1] := by simpa using (Prod.mk.injEq _ _ _ _ ▸ hxy).1
        obtain ⟨A, pl, pc, K, N, rfl, hpl, hst⟩ := open_prog g3 (fun n hn => hr n (by
          simp only [DataW.weights, Tryz.underlying22, List.mem_cons, List.mem_append]
          refine .inr (.inl (weightsAll_mem (d := D i) (List.mem_map.2 ⟨i, List.mem_range.2 hi, rfl⟩) ?_))
          rw [hD]
          simp only [DataW.weights, Tryz.underlying77]
          exact DataW.weights_mem_each (j := 3) (t := 75) rfl rfl n hn))
        exact ⟨(n0, n1, n2, A, pl, pc, K, N), by simpa [Addr.add] using q0, by simpa using q1, by simpa using q2, by simpa using q3, hpl, hst⟩
    obtain ⟨z, hz⟩ := choose_lt each
    refine ⟨some a, l, c, ⟨fun i => (z i).1, fun i => (z i).2.1, fun i => (z i).2.2.1, fun i => (z i).2.2.2.1, fun i => (z i).2.2.2.2.1, fun i => (z i).2.2.2.2.2.1, fun i => (z i).2.2.2.2.2.2.1, fun i => (z i).2.2.2.2.2.2.2⟩, by simpa using hv, ?_, fun h1 => ?_⟩
    · have := hr ((l + (c - l)) * Tryz.prog.bytesOf 77) (by simp [DataW.weights, Tryz.underlying22])
      rw [Tryz.bytes77] at this
      omega
    · obtain ⟨b, off, spot⟩ := a
      have hspot : spot = none := by
        have := World.cell?_spot (hz 0 (by omega)).c0
        simpa [Addr.add] using this
      subst hspot
      refine ⟨b, off, rfl, fun i hi => ?_⟩
      have := hz i hi
      rwa [Addr.add_lit] at this

end Go.Proofs.YtdabcflpcklfiaaGreat

/- A list of numbers that came in, opened; tasks that came in, as the walks take them. -/
namespace Go.Proofs.YtdabcflpcklfiaaGreat
open Go.ChangeShapes Go.WideShapes Go.ChangeAt Go.RowKit

theorem Tryz.ownN : ownKnob Tryz.prog.godebug = none := by kernel_rfl
theorem Tryz.laidOutN : laidOutB Tryz.prog = true := by kernel_rfl
theorem Tryz.bytesN : Tryz.prog.bytesOf 3 = 8 := by kernel_rfl

theorem reach_eqN : reachBytes = 140737488351232 := rfl

/-- A list of numbers that came in, opened. -/
theorem open_nums {H : Type} {enc : TypeId × Value → H} {W : World} {fuel : Nat} {v : Value} {x : DataW H × List MemPlace} (h : DataW.trod enc Tryz.prog W 0 (fun _ => true) true fuel 23 [v] = some x) (hr : ∀ n ∈ x.1.weights Tryz.prog 23, n ≤ reachBytes) :
    ∃ (A : Option Addr) (n cap : Nat) (Z : Nat → Int), v = .slice A n cap ∧ n * 8 ≤ reachBytes ∧ (1 ≤ n → ∃ b off, A = some ⟨b, off, none⟩ ∧ b < W.heap.size ∧ IntsAt W b off n Z) := by
  rcases open_ints Tryz.underlying23 Tryz.underlying3 Tryz.cells3 h with ⟨hv, _⟩ | ⟨a, l, c, zs, hv, _, hlc, _, hzl, rfl, hx, _⟩
  · cases hv
    exact ⟨none, 0, 0, fun _ => 0, rfl, by decide, fun h => by omega⟩
  · simp only [if_true] at hzl
    refine ⟨some a, l, c, fun i => zs.getD i 0, by simpa using hv, ?_, fun h1 => ?_⟩
    · have := hr (((lits .i64 (zs.take l)).length + (lits .i64 (zs.drop l)).length) * Tryz.prog.bytesOf 3) (by simp only [DataW.weights, Tryz.underlying23, List.mem_cons, List.mem_append]; exact .inl rfl)
      rw [Tryz.bytesN] at this
      simp [lits] at this
      omega
    · obtain ⟨b, off, spot⟩ := a
      have h0 := hx 0 (by omega)
      have hspot : spot = none := by simpa [Addr.add] using World.cell?_spot h0
      subst hspot
      refine ⟨b, off, rfl, ?_, fun i hi => ?_⟩
      · rw [Addr.add_lit] at h0
        exact World.block_lt_of_cell? W _ h0
      · have := hx i (by omega)
        rwa [Addr.add_lit] at this

/-- Tasks that came in, as the walks take them. -/
theorem open_tasksN {H : Type} {enc : TypeId × Value → H} {W : World} {fuel : Nat} {v : Value} {x : DataW H × List MemPlace} (h : DataW.trod enc Tryz.prog W 0 (fun _ => true) true fuel 22 [v] = some x) (hr : ∀ n ∈ x.1.weights Tryz.prog 22, n ≤ reachBytes) :
    ∃ (A : Option Addr) (n cap : Nat) (T : TD), v = .slice A n cap ∧ n ≤ 140737488351232 ∧ (1 ≤ n → ∃ b off, A = some ⟨b, off, none⟩ ∧ b < W.heap.size ∧ TasksAt W b off n T) := by
  obtain ⟨A, n, cap, T, rfl, hn, hst⟩ := open_tasks h hr
  rw [reach_eqN] at hn
  refine ⟨A, n, cap, T, rfl, by omega, fun h1 => ?_⟩
  obtain ⟨b, off, rfl, ht⟩ := hst h1
  refine ⟨b, off, rfl, World.block_lt_of_cell? W _ (ht 0 (by omega)).c0, fun i hi => ?_⟩
  have t := ht i hi
  have c1 := t.c1
  have c2 := t.c2
  have c3 := t.c3
  rw [Addr.add_lit] at c1 c2 c3
  have hl := t.len
  rw [reach_eqN] at hl
  refine ⟨t.c0, c1, c2, c3, by omega, fun h1 => ?_⟩
  obtain ⟨pb, po, e, hs⟩ := t.steps h1
  exact ⟨pb, po, e, World.block_lt_of_cell? W _ (hs 0 (by omega)).1, hs⟩

end Go.Proofs.YtdabcflpcklfiaaGreat
