import Derived.Test.YtdabcflpcklfiaaMe
import Derived.Deep.RegionLaw
import Derived.Laws.IdiomCopy
/- The record that was done longest ago is struck off the list. -/
namespace Go.Proofs.Ytdabcflpcklfiaa
open Go.RowKit Cad

theorem Try.info140 : (Try.prog.info? 140).map (fun i => (i.zero, i.size, i.bytes)) = some (some (.agg #[.int .i64 0, .int .i64 0, .int .i64 0, .int .i64 0, .int .i64 0, .int .i64 0]), 6, 48) := by kernel_rfl

theorem row_setCellsM {g t m : Nat} : ∀ (vs : List Value) (o : Nat) (w : World) (f : Nat → Value), w.rowIs g t m f → (w.setCells g o vs).rowIs g t m (fun q => if o ≤ q then (vs[q - o]?).getD (f q) else f q)
  | [], o, w, f, h => h.congr (fun q _ => by simp)
  | v :: r, o, w, f, h => (row_setCellsM r (o + 1) (w.setCell ⟨g, o, none⟩ v) _ (h.set o v)).congr (fun q _ => by
      by_cases h1 : q = o
      · subst h1
        rw [if_neg (by omega), if_pos rfl, if_pos (Nat.le_refl _)]
        simp
      · by_cases h2 : o + 1 ≤ q
        · rw [if_pos h2, if_neg h1, if_pos (by omega), show q - o = (q - (o + 1)) + 1 from by omega]
          simp
        · rw [if_neg h2, if_neg h1, if_neg (by omega)])

theorem fr_setCells {X : Nat → Prop} {g : Nat} {w0 : World} (hg : X g) : ∀ (vs : List Value) (o : Nat) (w : World), Fr X w0 w → Fr X w0 (w.setCells g o vs)
  | [], _, _, h => h
  | v :: r, o, _, h => fr_setCells hg r (o + 1) _ (h.setCell (.inl hg) v)

/-- A list of records in a block, by its cells. -/
theorem own_row {w : World} {v : Value} {n : Nat} {xs : List Value} (h : w.ownsRow 0 140 6 v n xs) (hn : 1 ≤ n) : ∃ g cap f, v = .slice (some ⟨g, 0, none⟩) n cap ∧ n ≤ cap ∧ cap ≤ maxLen ∧ w.rowIs g 140 (cap * 6) f ∧ ∀ i, i < n * 6 → xs[i]? = some (f i) := by
  obtain ⟨hl, ⟨_, h0⟩ | ⟨g, cap, cur, rfl, _, hb, h1, h2, h3, h4⟩⟩ := h
  · omega
  · refine ⟨g, cap, fun i => cur.toList.getD i (.int .i64 0), rfl, h1, h2, ⟨cur, hb, h3, fun i hi => ?_⟩, fun i hi => ?_⟩
    · simp [List.getD, h3 ▸ hi]
    · rw [← h4, List.getElem?_take, if_pos hi]
      have : i < cur.toList.length := by
        simp; rw [h3]
        exact Nat.lt_of_lt_of_le hi (Nat.mul_le_mul_right 6 h1)
      simp [List.getD, List.getElem?_eq_getElem this]

theorem row_own {w : World} {g cap n : Nat} {f : Nat → Value} {xs : List Value} (h : w.rowIs g 140 (cap * 6) f) (h1 : n ≤ cap) (h2 : cap ≤ maxLen) (hl : xs.length = n * 6) (hx : ∀ i, i < n * 6 → xs[i]? = some (f i)) : w.ownsRow 0 140 6 (.slice (some ⟨g, 0, none⟩) n cap) n xs := by
  obtain ⟨c, hc, hs, hf⟩ := h
  refine ⟨hl, .inr ⟨g, cap, c, rfl, Nat.zero_le _, hc, h1, h2, hs, ?_⟩⟩
  apply List.ext_getElem?
  intro i
  rw [List.getElem?_take]
  by_cases hi : i < n * 6
  · rw [if_pos hi, hx i hi, Array.getElem?_toList]
    exact hf i (Nat.lt_of_lt_of_le hi (Nat.mul_le_mul_right 6 h1))
  · rw [if_neg hi, List.getElem?_eq_none (by omega)]

theorem Try.zero127 (w : World) : (zeroValue 140).run Try.prog w = .ok (.agg #[.int .i64 0, .int .i64 0, .int .i64 0, .int .i64 0, .int .i64 0, .int .i64 0]) w := by kernel_rfl

def zero6 : List Value := [.int .i64 0, .int .i64 0, .int .i64 0, .int .i64 0, .int .i64 0, .int .i64 0]

/-- Clearing one record. -/
theorem run_clear1 {w : World} {g off c : Nat} (ty : TypeId) (hc : ∀ j, j < 6 → (w.cell? ⟨g, off + j, none⟩).isSome = true) (hf : ∀ j, j < 6 → w.frozen? ⟨g, off + j, none⟩ = false) :
    (Builtin.clear_ #[133] ty #[.slice (some ⟨g, off, none⟩) 1 c]).run Try.prog w = .ok (.tuple #[]) (w.setCells g off zero6) := by
  have hst := run_storeCells_cells (P := Try.prog) g off zero6 0 w (by simpa [zero6] using hc) (by simpa [zero6] using hf) (by intro v hv; simp [zero6] at hv; subst hv; rfl)
  simp only [Nat.add_zero] at hst
  have hz : (Builtin.zeroCells (Value.agg #[.int .i64 0, .int .i64 0, .int .i64 0, .int .i64 0, .int .i64 0, .int .i64 0]).cells 1).toList = zero6 := by kernel_rfl
  simp [Builtin.clear_, run_underlying Try.underlying133, hz, hst]

set_option maxRecDepth 100000 in
set_option maxHeartbeats 2000000 in
/-- slices.Delete(s, 0, 1). -/
theorem del_any (v : Value) (n : Nat) (xs : List Value) (w : World) (hn : 1 ≤ n) (hn1 : n ≤ 1000) (h1c : ∀ u ∈ xs, u.oneCell' = true) (h : w.ownsRow 0 140 6 v (n + 1) xs) :
    Calls Try.prog 108 #[v, .int .i64 0, .int .i64 1] w fun e w' => ∃ v', e = .returned v' ∧ v'.ownBlock = v.ownBlock ∧ w'.ownsRow 0 140 6 v' n (xs.drop 6) ∧ Fr (fun i => v.ownBlock = some i) w w' := by
  obtain ⟨i0, hi0, hz0, hz1, hz2⟩ := info_parts Try.info140
  have hxl : xs.length = (n + 1) * 6 := h.1
  obtain ⟨g, cap, f, rfl, hnc, hcm, hr, hx⟩ := own_row h (by omega)
  obtain ⟨news, hnews⟩ : ∃ news, news = xs.drop 6 := ⟨_, rfl⟩
  have hnl : news.length = n * 6 := by rw [hnews, List.length_drop]; omega
  have hng : ∀ j, j < n * 6 → news[j]? = some (f (6 + j)) := fun j hj => by rw [hnews, List.getElem?_drop]; exact hx (6 + j) (by omega)
  have s1 : Hid (news.length = n * 6) := hnl
  have s2 : Hid (∀ j u, news[j]? = some u → w.drew.cell? ((⟨g, 6, none⟩ : Addr).add j) = some u) := fun j u hu => by
    have hj : j < n * 6 := by have := (List.getElem?_eq_some_iff.1 hu).1; omega
    rw [hng j hj] at hu
    rw [Addr.add_lit, ← hu]
    exact hr.cell (by omega)
  have s3 : Hid (∀ u ∈ news, u.oneCell' = true) := fun u hu => h1c u (by rw [hnews] at hu; exact List.mem_of_mem_drop hu)
  have s4 : Hid (∀ j, j < news.length → (w.drew.cell? ⟨g, 0 + 0 * 6 + j, none⟩).isSome = true ∧ w.drew.frozen? ⟨g, 0 + 0 * 6 + j, none⟩ = false) := fun j hj => by
    rw [hnl] at hj
    refine ⟨?_, hr.frozen _⟩
    have := hr.cell (i := 0 + 0 * 6 + j) (by omega)
    show (w.cell? _).isSome = true
    rw [this]; rfl
  have hmx : cap ≤ 9223372036854775807 := by simpa [maxLen] using hcm
  have HR : Hid (w.rowIs g 140 (cap * 6) f) := hr
  have HNG : Hid (∀ j, j < n * 6 → news[j]? = some (f (6 + j))) := hng
  have HNL : Hid (news.length = n * 6) := hnl
  have hb1 : (1 : Int) ≤ (n : Int) + 1 := by omega
  have hc1 : ¬ cap = 1 := by omega
  have HNW : Hid (news = xs.drop 6) := hnews
  clear h hr hx hng hnl h1c hnews hxl
  go_enter Try.func108, Try.ntmps108
  go_wp2
  go_region_law (refine step_append_room rfl (.tmp 22) (.tmp 25) 133 rfl 140 i0 6 Try.underlying133 hi0 hz1 g 0 0 cap (by simp [Act.eval, Act.put]) ⟨g, 6, none⟩ n (cap - 1) news (by simp [Act.eval, Act.put]) s1.out s2.out s3.out (by omega) s4.out ?_)
  obtain ⟨W, hW⟩ : ∃ W, W = w.drew.setCells g 0 news := ⟨_, rfl⟩
  have HW : Hid (W.rowIs g 140 (cap * 6) (fun q => if q < n * 6 then f (6 + q) else f q)) := by
    unfold Hid
    rw [hW]
    refine (row_setCellsM news 0 w.drew f (HR.out.drew)).congr (fun q hq => ?_)
    rw [if_pos (Nat.zero_le _), Nat.sub_zero]
    by_cases hlt : q < n * 6
    · rw [if_pos hlt, HNG.out q hlt]; rfl
    · rw [if_neg hlt, List.getElem?_eq_none (by have := HNL.out; omega)]; rfl
  have HF : Hid (Fr (fun i => i = g) w W) := by
    unfold Hid
    rw [hW]
    exact fr_setCells (X := fun i => i = g) rfl news 0 _ ((Fr.refl _ _).drew)
  rw [← hW]
  clear hW s1 s2 s3 s4
  have hc2 : ¬ cap = n := by omega
  have HCL : Hid (∀ j, j < 6 → (W.cell? ⟨g, n * 6 + j, none⟩).isSome = true) := fun j hj => by rw [HW.out.cell (by omega)]; rfl
  have HFZ : Hid (∀ j, j < 6 → W.frozen? ⟨g, n * 6 + j, none⟩ = false) := fun j hj => HW.out.frozen _
  have hb2 : (n : Int) ≤ (n : Int) + 1 := by omega
  have hb3 : (n : Int) + 1 ≤ (cap : Int) := by omega
  have hclr := run_clear1 (c := cap - n) 0 HCL.out HFZ.out
  obtain ⟨W2, hW2⟩ : ∃ W2, W2 = W.setCells g (n * 6) zero6 := ⟨_, rfl⟩
  rw [← hW2] at hclr
  have HW2 : Hid (W2.ownsRow 0 140 6 (.slice (some ⟨g, 0, none⟩) n cap) n (xs.drop 6)) := by
    unfold Hid
    rw [hW2, ← HNW.out]
    refine row_own (row_setCellsM zero6 (n * 6) W _ HW.out) (by omega) hcm HNL.out (fun i hi => ?_)
    rw [HNG.out i hi, if_neg (by omega), if_pos hi]
  have HF2 : Hid (Fr (fun i => i = g) w W2) := by
    unfold Hid
    rw [hW2]
    exact fr_setCells (X := fun i => i = g) rfl zero6 _ _ HF.out
  clear hW2
  go_wp2
  go_ret
  exact ⟨_, rfl, rfl, HW2.out, HF2.out.mono (fun i hi => by simp [Value.ownBlock, hi])⟩

end Go.Proofs.Ytdabcflpcklfiaa
