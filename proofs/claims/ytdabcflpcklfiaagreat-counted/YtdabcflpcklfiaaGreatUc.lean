import Derived.Test.YtdabcflpcklfiaaGreatK36
import Derived.Test.YtdabcflpcklfiaaGreatRc
/- A script that came in, opened. -/
namespace Go.Proofs.YtdabcflpcklfiaaGreat
open Go.RowKit Go.Deep Go.ChangeShapes Go.WideShapes

theorem wf_inv {n : Int} (h : (Lit.int .i64 n).wf = true) : I64 n := by
  simp [Lit.wf, IntKind.min, IntKind.max, IntKind.signed, IntKind.bits] at h
  unfold I64
  omega

theorem Tryz.cells42 : Tryz.prog.cellsOf 42 = 4 := by kernel_rfl
theorem Tryz.cells23 : Tryz.prog.cellsOf 23 = 1 := by kernel_rfl
theorem Tryz.bytes42 : Tryz.prog.bytesOf 42 = 48 := by kernel_rfl

/-- Raw numbers that came in. -/
theorem open_raw {H : Type} {enc : TypeId × Value → H} {W : World} {fuel : Nat} {v : Value} {x : DataW H × List MemPlace} (h : DataW.trod enc Tryz.prog W 0 (fun _ => true) true fuel 23 [v] = some x) (hr : ∀ n ∈ x.1.weights Tryz.prog 23, n ≤ reachBytes) :
    ∃ (A : Option Addr) (n cap : Nat) (Z : Nat → Int), v = .slice A n cap ∧ RawAt W A n Z := by
  rcases open_ints Tryz.underlying23 Tryz.underlying3 Tryz.cells3 h with ⟨hv, _⟩ | ⟨a, l, c, zs, hv, _, hlc, hcm, hzl, rfl, hx, hwf⟩
  · cases hv
    exact ⟨none, 0, 0, fun _ => 0, rfl, by omega, fun h => by omega, fun q hq => by omega⟩
  · simp only [if_true] at hzl
    have hlr : l * 8 ≤ 140737488351232 := by
      have := hr (((lits .i64 (zs.take l)).length + (lits .i64 (zs.drop l)).length) * Tryz.prog.bytesOf 3) (by simp only [DataW.weights, Tryz.underlying23, List.mem_cons, List.mem_append]; exact .inl rfl)
      rw [Tryz.bytesN, reach_eqN] at this
      simp [lits] at this
      omega
    refine ⟨some a, l, c, fun i => zs.getD i 0, by simpa using hv, by omega, fun h1 => ?_, fun q hq => ?_⟩
    · obtain ⟨b, off, spot⟩ := a
      have h0 := hx 0 (by omega)
      have hspot : spot = none := by simpa [Addr.add] using World.cell?_spot h0
      subst hspot
      refine ⟨b, off, rfl, ?_, fun i hi => ?_⟩
      · rw [Addr.add_lit] at h0
        exact World.block_lt_of_cell? W _ h0
      · have := hx i (by omega)
        rwa [Addr.add_lit] at this
    · refine wf_inv (hwf _ ?_)
      have hqz : q < zs.length := by omega
      simp only [List.getD_eq_getElem?_getD, List.getElem?_eq_getElem hqz, Option.getD_some]
      exact List.getElem_mem hqz

/-- One step's numbers, and its raw ones. -/
structure StepIn (W : World) (a : Addr) (t j u : Int) (A : Option Addr) (l c : Nat) (R : Nat → Int) : Prop where
  c0 : W.cell? a = some (.int .i64 t)
  c1 : W.cell? (a.add 1) = some (.int .i64 j)
  c2 : W.cell? (a.add 2) = some (.int .i64 u)
  c3 : W.cell? (a.add 3) = some (.slice A l c)
  r0 : I64 t
  r1 : I64 j
  r2 : I64 u
  raw : RawAt W A l R

set_option maxRecDepth 100000 in
theorem open_script {H : Type} {enc : TypeId × Value → H} {W : World} {fuel : Nat} {v : Value} {x : DataW H × List MemPlace} (h : DataW.trod enc Tryz.prog W 0 (fun _ => true) true fuel 36 [v] = some x) (hr : ∀ n ∈ x.1.weights Tryz.prog 36, n ≤ reachBytes) :
    ∃ (A : Option Addr) (n cap : Nat) (X : SD), v = .slice A n cap ∧ n * 48 ≤ 140737488351232 ∧ (1 ≤ n → ∃ b off, A = some ⟨b, off, none⟩ ∧ b < W.heap.size ∧ ScriptAt W b off n X) := by
  rcases open_slice Tryz.underlying36 h with ⟨hv, _⟩ | ⟨a, l, c, m, n, D, Pl, hv, _, hlc, _, hm, rfl, hx⟩
  · cases hv
    exact ⟨none, 0, 0, ⟨fun _ => 0, fun _ => 0, fun _ => 0, fun _ => none, fun _ => 0, fun _ => 0, fun _ _ => 0⟩, rfl, by decide, fun h => by omega⟩
  · simp only [if_true] at hm
    have hm2 := hm.symm
    subst hm2
    rw [Tryz.cells42] at hx
    have each : ∀ i, i < l → ∃ z : Int × Int × Int × Option Addr × Nat × Nat × (Nat → Int), StepIn W (a.add (i * 4)) z.1 z.2.1 z.2.2.1 z.2.2.2.1 z.2.2.2.2.1 z.2.2.2.2.2.1 z.2.2.2.2.2.2 := by
      intro i hi
      obtain ⟨cs', h1, h2⟩ := hx i (by omega)
      obtain ⟨_, hlen, hcell⟩ := World.cells?_some h1
      obtain ⟨xs, k, hk, hxy, _, hxl, hf⟩ := DataW.trod_struct Tryz.underlying42 h2
      match xs, hxl, cs', hlen with
      | [y0, y1, y2, y3], _, [v0, v1, v2, v3], _ =>
        have g0 := hf 0 _ rfl
        have g1 := hf 1 _ rfl
        have g2 := hf 2 _ rfl
        have g3 := hf 3 _ rfl
        simp [Tryz.cells3, Tryz.cells23] at g0 g1 g2 g3
        have q0 := hcell 0 (by omega)
        have q1 := hcell 1 (by omega)
        have q2 := hcell 2 (by omega)
        have q3 := hcell 3 (by omega)
        obtain ⟨n0, e0, _, w0⟩ := DataW.trod_int Tryz.underlying3 g0
        obtain ⟨n1, e1, _, w1⟩ := DataW.trod_int Tryz.underlying3 g1
        obtain ⟨n2, e2, _, w2⟩ := DataW.trod_int Tryz.underlying3 g2
        simp at e0 e1 e2
        subst e0 e1 e2
        have hD : D i = .agg [y0.1, y1.1, y2.1, y3.1] := by simpa using (Prod.mk.injEq _ _ _ _ ▸ hxy).1
        obtain ⟨A, pl, pc, R, rfl, hraw⟩ := open_raw g3 (fun n hn => hr n (by
          simp only [DataW.weights, Tryz.underlying36, List.mem_cons, List.mem_append]
          refine .inr (.inl (weightsAll_mem (d := D i) (List.mem_map.2 ⟨i, List.mem_range.2 hi, rfl⟩) ?_))
          rw [hD]
          simp only [DataW.weights, Tryz.underlying42]
          exact DataW.weights_mem_each (j := 3) (t := 23) rfl rfl n hn))
        exact ⟨(n0, n1, n2, A, pl, pc, R), by simpa [Addr.add] using q0, by simpa using q1, by simpa using q2, by simpa using q3, wf_inv w0, wf_inv w1, wf_inv w2, hraw⟩
    obtain ⟨z, hz⟩ := choose_lt each
    refine ⟨some a, l, c, ⟨fun i => (z i).1, fun i => (z i).2.1, fun i => (z i).2.2.1, fun i => (z i).2.2.2.1, fun i => (z i).2.2.2.2.1, fun i => (z i).2.2.2.2.2.1, fun i => (z i).2.2.2.2.2.2⟩, by simpa using hv, ?_, fun h1 => ?_⟩
    · have := hr ((l + (c - l)) * Tryz.prog.bytesOf 42) (by simp [DataW.weights, Tryz.underlying36])
      rw [Tryz.bytes42, reach_eqN] at this
      omega
    · obtain ⟨b, off, spot⟩ := a
      have hspot : spot = none := by
        have := World.cell?_spot (hz 0 (by omega)).c0
        simpa [Addr.add] using this
      subst hspot
      refine ⟨b, off, rfl, ?_, fun i hi => ?_⟩
      · have := (hz 0 (by omega)).c0
        rw [Addr.add_lit] at this
        exact World.block_lt_of_cell? W _ this
      · have hh := hz i hi
        rw [Addr.add_lit] at hh
        have c1 := hh.c1
        have c2 := hh.c2
        have c3 := hh.c3
        rw [Addr.add_lit] at c1 c2 c3
        exact ⟨hh.c0, c1, c2, c3, hh.r0, hh.r1, hh.r2, hh.raw⟩

end Go.Proofs.YtdabcflpcklfiaaGreat
