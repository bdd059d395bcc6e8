import Derived.Test.YtdabcflpcklfiaaMp
import Derived.Maps.AppendAt
import Derived.Lib.SliceRun
/- Steps are copied. -/
namespace Go.Proofs.Ytdabcflpcklfiaa
open Go.RowKit Cad

/-- Steps in memory, from some place on. -/
def StepsIn (w : World) (g off : Nat) (K N : Nat → Int) (L : Nat) : Prop := ∀ i, i < L → w.cell? ⟨g, off + i * 2, none⟩ = some (.int .i64 (K i)) ∧ w.cell? ⟨g, off + i * 2 + 1, none⟩ = some (.int .i64 (N i))

def stepF (K N : Nat → Int) (q : Nat) : Value := if q % 2 = 0 then .int .i64 (K (q / 2)) else .int .i64 (N (q / 2))
def stepC (K N : Nat → Int) (L : Nat) : List Value := (List.range (L * 2)).map (stepF K N)

theorem stepC_len (K N : Nat → Int) (L : Nat) : (stepC K N L).length = L * 2 := by simp [stepC]
theorem stepC_get (K N : Nat → Int) {L j : Nat} (h : j < L * 2) : (stepC K N L)[j]? = some (stepF K N j) := by simp [stepC, h]
theorem stepC_one (K N : Nat → Int) (L : Nat) : ∀ u ∈ stepC K N L, u.oneCell' = true := by
  intro u hu
  simp only [stepC, List.mem_map] at hu
  obtain ⟨q, _, rfl⟩ := hu
  unfold stepF
  split <;> rfl

theorem steps_cells {w : World} {g off : Nat} {K N : Nat → Int} {L : Nat} (h : StepsIn w g off K N L) : ∀ j u, (stepC K N L)[j]? = some u → w.cell? ((⟨g, off, none⟩ : Addr).add j) = some u := by
  intro j u hu
  have hj : j < L * 2 := by have := (List.getElem?_eq_some_iff.1 hu).1; rwa [stepC_len] at this
  rw [stepC_get K N hj] at hu
  rw [Addr.add_lit, ← hu]
  unfold stepF
  have := h (j / 2) (by omega)
  by_cases c : j % 2 = 0
  · rw [if_pos c, ← this.1]
    congr 2
    omega
  · rw [if_neg c, ← this.2]
    congr 2
    omega

/-- A list of steps of its own. -/
theorem own_steps {w : World} {base L : Nat} {K N : Nat → Int} {v : Value} (h : w.ownsRow base 99 2 v L (stepC K N L)) (hL : 1 ≤ L) : ∃ g cap, v = .slice (some ⟨g, 0, none⟩) L cap ∧ base ≤ g ∧ v.ownBlock = some g ∧ StepRow w g cap K N L := by
  obtain ⟨hl, ⟨_, h0⟩ | ⟨g, cap, cur, rfl, hb, hc, h1, h2, h3, h4⟩⟩ := h
  · omega
  · refine ⟨g, cap, rfl, hb, rfl, h1, fun q => cur.toList.getD q (.int .i64 0), ⟨cur, hc, h3, fun i hi => ?_⟩, fun i hi => ?_⟩
    · simp [List.getD, h3 ▸ hi]
    · have hg : ∀ q, q < L * 2 → cur.toList.getD q (.int .i64 0) = stepF K N q := fun q hq => by
        have e1 : (cur.toList.take (L * 2))[q]? = some (stepF K N q) := by rw [h4]; exact stepC_get K N hq
        rw [List.getElem?_take, if_pos hq] at e1
        simp only [List.getD, e1]
        rfl
      refine ⟨?_, ?_⟩
      · show cur.toList.getD (i * 2) (.int .i64 0) = _
        rw [hg (i * 2) (by omega)]
        unfold stepF
        rw [if_pos (by omega), show i * 2 / 2 = i from by omega]
      · show cur.toList.getD (i * 2 + 1) (.int .i64 0) = _
        rw [hg (i * 2 + 1) (by omega)]
        unfold stepF
        rw [if_neg (by omega), show (i * 2 + 1) / 2 = i from by omega]

theorem nil61 (w : World) (a : Addr) (n c : Nat) : (binOp .eql 65 (.slice (some a) n c) (.slice none 0 0)).run Try.prog w = .ok (.bool false) w := Lib.run_eql_slice_nil w 65 99 (some a) n c 0 0 Try.underlying65

set_option maxRecDepth 100000 in
set_option maxHeartbeats 1000000 in
/-- slices.Clone of steps. -/
theorem clone_any (g off L cap : Nat) (K N : Nat → Int) (w : World) (h1 : 1 ≤ L) (h2 : L ≤ 16) (hg : g < w.heap.size) (h : StepsIn w g off K N L) :
    Calls Try.prog 90 #[.slice (some ⟨g, off, none⟩) L cap] w fun e w' => ∃ b c, e = .returned (.slice (some ⟨b, 0, none⟩) L c) ∧ w.heap.size ≤ b ∧ StepRow w' b c K N L ∧ Below w.heap.size w w' := by
  obtain ⟨i0, hi0, hz0, hz1, hz2⟩ := info_parts Try.inf85
  have hnil := nil61
  have HS : Hid (StepsIn w g off K N L) := h
  clear h
  go_enter Try.func90, Try.ntmps90
  have HN : Hid (∀ j u, (stepC K N L)[j]? = some u → (w.alloc (.cells #[] 99)).cell? ((⟨g, off, none⟩ : Addr).add j) = some u) := fun j u hu => by
    have := steps_cells HS.out j u hu
    rw [Addr.add_lit] at this ⊢
    rw [← this]
    simp only [World.cell?]
    rw [Deep.blk_alloc_lt _ _ _ hg]
  have HL : Hid ((stepC K N L).length = L * 2) := stepC_len K N L
  have H1 : Hid (∀ u ∈ stepC K N L, u.oneCell' = true) := stepC_one K N L
  have HO : Hid ((w.alloc (.cells #[] 99)).ownsRow w.heap.size 99 2 (.slice (some ⟨w.heap.size, 0, none⟩) 0 0) 0 []) := World.ownsRow_made w #[] 0 (Nat.le_refl _) (Nat.zero_le _) rfl
  go_wp2_with (at_builtin; refine wpList_append_own_at _ rfl _ _ 65 rfl w.heap.size 99 i0 _ 2 16 Try.underlying65 hi0 hz0 hz1 hz2 rfl (by decide) _ _ _ rfl HO.out ⟨g, off, none⟩ L cap (stepC K N L) rfl HL.out HN.out H1.out (by unfold maxLen; omega) (by omega) (by simp) ?_; intro v' w1 hown1 hg1 hnil1 hloc1)
  rw [Nat.zero_add, List.nil_append] at hown1
  obtain ⟨b, c, rfl, hb, _, hsr⟩ := own_steps hown1 h1
  have HB : Hid (Below w.heap.size w w1) := ((Below.refl _ _).alloc (Nat.le_refl _) _).grown hg1 (by simp) (fun k hk => by cases hk; exact Nat.le_refl _)
  clear hown1 hg1 hnil1 hloc1
  go_wp2
  go_ret
  exact ⟨b, c, rfl, hb, hsr, HB.out⟩
end Go.Proofs.Ytdabcflpcklfiaa
