import Derived.Test.YtdabcflpcklfiaaPc
/- A set without one of its tasks. -/
namespace Go.Proofs.Ytdabcflpcklfiaa
open Go.RowKit

set_option maxRecDepth 100000 in
set_option maxHeartbeats 1000000 in
theorem without_any (H : Nat → Bool) (i : Nat) (w : World) (hi : i < 8) :
    Calls Try.prog 66 #[setV H, .int .i64 i] w fun e w' => e = .returned (setV (dropI H i)) ∧ Below w.heap.size w w' := by
  have HSET : Hid (((w.alloc (.cells #[.bool (H 0), .bool (H 1), .bool (H 2), .bool (H 3), .bool (H 4), .bool (H 5), .bool (H 6), .bool (H 7)] 86)).alloc (.cells #[.bool false, .bool false, .bool false, .bool false, .bool false, .bool false, .bool false, .bool false] 86)).rowIs w.heap.size 86 8 (fun q => .bool (H q)) ∧
      ((w.alloc (.cells #[.bool (H 0), .bool (H 1), .bool (H 2), .bool (H 3), .bool (H 4), .bool (H 5), .bool (H 6), .bool (H 7)] 86)).alloc (.cells #[.bool false, .bool false, .bool false, .bool false, .bool false, .bool false, .bool false, .bool false] 86)).rowIs (w.heap.size + 1) 86 8 fls ∧
      Below w.heap.size w ((w.alloc (.cells #[.bool (H 0), .bool (H 1), .bool (H 2), .bool (H 3), .bool (H 4), .bool (H 5), .bool (H 6), .bool (H 7)] 86)).alloc (.cells #[.bool false, .bool false, .bool false, .bool false, .bool false, .bool false, .bool false, .bool false] 86))) :=
    ⟨(set_row w H).alloc _, false8 _ 86 _ (by simp), (below_alloc1 _ _).alloc (by simp) _⟩
  unfold setV
  go_enter Try.func66, Try.ntmps66
  go_wp2_with (refine wpList_abs 4 (.tmp 6) (.const (.bool false)) rfl (fun w' => w'.rowIs w.heap.size 86 8 (fun q => .bool (H q)) ∧ w'.rowIs (w.heap.size + 1) 86 8 fls ∧ Below w.heap.size w w') HSET.out ?_)
  intro W0 hW0
  have hz0 : W0.frozen? ⟨w.heap.size, i, none⟩ = false := hW0.1.frozen i
  have hc0 : W0.cell? ⟨w.heap.size, i, none⟩ = some (.bool (H i)) := hW0.1.cell hi
  have hset : (W0.setCell ⟨w.heap.size, i, none⟩ (.bool false)).rowIs w.heap.size 86 8 (fun q => .bool (dropI H i q)) := (hW0.1.set i (.bool false)).congr (fun q _ => by
    unfold dropI
    by_cases e : q = i
    · simp [e]
    · simp [e])
  have HR2 : Hid ((W0.setCell ⟨w.heap.size, i, none⟩ (.bool false)).heap[w.heap.size + 1]? = some (.cells #[.bool false, .bool false, .bool false, .bool false, .bool false, .bool false, .bool false, .bool false] 86 (0, 0))) := row8 (hW0.2.1.setOther (by show w.heap.size + 1 ≠ w.heap.size; omega) _)
  have HP2 : Hid ((W0.setCell ⟨w.heap.size, i, none⟩ (.bool false)).heap[w.heap.size]? = some (.cells #[.bool (dropI H i 0), .bool (dropI H i 1), .bool (dropI H i 2), .bool (dropI H i 3), .bool (dropI H i 4), .bool (dropI H i 5), .bool (dropI H i 6), .bool (dropI H i 7)] 86 (0, 0))) := row8 hset
  have HBA : Hid (Below w.heap.size w (W0.setCell ⟨w.heap.size, i, none⟩ (.bool false))) := hW0.2.2.setCell (Nat.le_refl _) _
  clear hset hW0
  go_wp2_with (first | (refine wpList_load_row rfl 86 (.tmp 2) rfl w.heap.size rfl 86 #[.bool (dropI H i 0), .bool (dropI H i 1), .bool (dropI H i 2), .bool (dropI H i 3), .bool (dropI H i 4), .bool (dropI H i 5), .bool (dropI H i 6), .bool (dropI H i 7)] (0, 0) _ HP2.out Try.underlying86 rfl (by kernel_rfl) ?_) | (refine wpList_store_row rfl 86 (.tmp 4) (.tmp 7) rfl (w.heap.size + 1) #[.bool (dropI H i 0), .bool (dropI H i 1), .bool (dropI H i 2), .bool (dropI H i 3), .bool (dropI H i 4), .bool (dropI H i 5), .bool (dropI H i 6), .bool (dropI H i 7)] rfl rfl 86 #[.bool false, .bool false, .bool false, .bool false, .bool false, .bool false, .bool false, .bool false] HR2.out (by kernel_rfl) rfl (all8 _ _ _ _ _ _ _ _) ?_))
  refine bodyPost_ret (results_cell_row rfl _ _ (w.heap.size + 1) 86 _ (0, 0) _ rfl (setRow_heap _ _ _ _ _ _ HR2.out) Try.underlying86 rfl (by kernel_rfl)) rfl ⟨rfl, ?_⟩
  exact HBA.out.trans ⟨rfl, rfl, rfl, by simp, fun q hq => setRow_other _ _ _ _ (by omega)⟩

end Go.Proofs.Ytdabcflpcklfiaa
