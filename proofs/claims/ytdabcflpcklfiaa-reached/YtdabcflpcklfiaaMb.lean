import Derived.Test.YtdabcflpcklfiaaMk
import Derived.Laws.Rows
/- A job's next step is taken off. -/
namespace Go.Proofs.Ytdabcflpcklfiaa
open Go.RowKit Cad

theorem Try.inf85 : (Try.prog.info? 99).map (fun i => (i.zero, i.size, i.bytes)) = some (some (.agg #[.int .i64 0, .int .i64 0]), 2, 16) := by kernel_rfl

theorem heap_two (w : World) (a : Addr) (v : Value) (o o' : Obj) : (((w.setCell a v).alloc o).alloc o').heap[w.heap.size]? = some o := by
  rw [Deep.blk_alloc_lt _ _ _ (by simp)]
  have := Deep.blk_alloc_new (w.setCell a v) o
  simpa using this

set_option maxHeartbeats 1000000 in
theorem next_any (jb rb off len cap : Nat) (f : Nat → Value) (k x : Int) (w : World) (hl : 1 ≤ len) (_hlc : len ≤ cap) (hf : f 6 = .slice (some ⟨rb, off, none⟩) len cap)
    (hj : w.rowIs jb 142 7 f) (h0 : w.cell? ⟨rb, off, none⟩ = some (.int .i64 k)) (h1 : w.cell? ⟨rb, off + 1, none⟩ = some (.int .i64 x)) (hrl : rb < w.heap.size) :
    Calls Try.prog 107 #[.pointer (some ⟨jb, 0, none⟩)] w fun e w' => e = .returned (.agg #[.int .i64 k, .int .i64 x]) ∧
      w'.rowIs jb 142 7 (fun q => if q = 6 then .slice (some ⟨rb, if cap = 1 then off else off + 2, none⟩) (len - 1) (cap - 1) else f q) ∧ Fr (fun i => i = jb) w w' := by
  have c6 : w.cell? ⟨jb, 6, none⟩ = some (.slice (some ⟨rb, off, none⟩) len cap) := by rw [hj.cell (by omega), hf]
  have z6 := hj.frozen 6
  have hjl := hj.lt
  go_enter Try.func107, Try.ntmps107
  go_wp2
  · refine bodyPost_ret (results_cell_row rfl _ _ w.heap.size 99 #[.int .i64 k, .int .i64 x] (0, 0) _ rfl (heap_two _ _ _ _ _) Try.underlying99 rfl (by kernel_rfl)) rfl ?_
    exact ⟨rfl, ((hj.set 6 _).alloc _).alloc _, (((Fr.refl (fun i => i = jb) w).setCell (a := ⟨jb, 6, none⟩) (.inl rfl) _).alloc _).alloc _⟩
  · refine bodyPost_ret (results_cell_row rfl _ _ w.heap.size 99 #[.int .i64 k, .int .i64 x] (0, 0) _ rfl (heap_two _ _ _ _ _) Try.underlying99 rfl (by kernel_rfl)) rfl ?_
    exact ⟨rfl, ((hj.set 6 _).alloc _).alloc _, (((Fr.refl (fun i => i = jb) w).setCell (a := ⟨jb, 6, none⟩) (.inl rfl) _).alloc _).alloc _⟩
end Go.Proofs.Ytdabcflpcklfiaa
