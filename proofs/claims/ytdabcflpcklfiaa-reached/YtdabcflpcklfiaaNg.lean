import Derived.Test.YtdabcflpcklfiaaNf
import Derived.Test.YtdabcflpcklfiaaTj
/- A program's demands. -/
namespace Go.Proofs.Ytdabcflpcklfiaa
open Go.RowKit Cad

def compsTo (K N : Nat → Int) : Nat → List Int
  | 0 => []
  | k + 1 => if K k = 1 then compsTo K N k ++ [N k] else compsTo K N k

theorem comps_len (K N : Nat → Int) : ∀ k, (compsTo K N k).length = cmpTo K k
  | 0 => rfl
  | k + 1 => by
    unfold compsTo cmpTo
    split
    · rw [List.length_append, comps_len K N k]; rfl
    · exact comps_len K N k

theorem cmp_mono (K : Nat → Int) : ∀ d k, cmpTo K k ≤ cmpTo K (k + d)
  | 0, _ => Nat.le_refl _
  | d + 1, k => by
    have := cmp_mono K d k
    rw [← Nat.add_assoc, cmpTo]
    split <;> omega

theorem comps_at {K N : Nat → Int} : ∀ L k, k < L → K k = 1 → (compsTo K N L)[cmpTo K k]? = some (N k)
  | 0, k, h, _ => by omega
  | L + 1, k, h, h1 => by
    unfold compsTo
    by_cases e : k = L
    · subst e
      rw [if_pos h1, List.getElem?_append_right (by rw [comps_len]; exact Nat.le_refl _), comps_len]
      simp
    · have ih := comps_at (N := N) L k (by omega) h1
      split
      · rw [List.getElem?_append_left (List.getElem?_eq_some_iff.1 ih).1]
        exact ih
      · exact ih

theorem comps_full {K N : Nat → Int} {L : Nat} (h : ∀ k, k < L → K k = 1 → 1 ≤ N k) : Full K N L (fun q => (compsTo K N L).getD q 0) (compsTo K N L).length := by
  have ha : ∀ k, k < L → K k = 1 → (compsTo K N L).getD (cmpTo K k) 0 = N k := fun k hk h1 => by
    have := comps_at (N := N) L k hk h1
    simp [List.getD, this]
  refine ⟨⟨fun k hk h1 => ⟨?_, ?_, ?_⟩, (comps_len K N L).symm⟩, ha⟩
  · exact (List.getElem?_eq_some_iff.1 (comps_at (N := N) L k hk h1)).1
  · show 1 ≤ (compsTo K N L).getD (cmpTo K k) 0
    rw [ha k hk h1]; exact h k hk h1
  · show (compsTo K N L).getD (cmpTo K k) 0 ≤ N k
    rw [ha k hk h1]; exact Int.le_refl _

set_option maxRecDepth 100000 in
set_option maxHeartbeats 1000000 in
theorem computes_any (b off L cap : Nat) (K N : Nat → Int) (w : World) (hL : L ≤ 16) (hb : b < w.heap.size) (hS : StepsAt w b off L K N) :
    Calls Try.prog 30 #[.slice (some ⟨b, off, none⟩) L cap] w fun e w' => ∃ v, e = .returned v ∧ w'.ownsRow w.heap.size 3 1 v (compsTo K N L).length ((compsTo K N L).map (Value.int .i64)) ∧ Below w.heap.size w w' := by
  obtain ⟨i0, hi, hz0, hz1, hz2⟩ := info_parts Try.info3
  have HS : Hid (StepsAt w b off L K N) := hS
  clear hS
  go_enter Try.func30, Try.ntmps30
  go_wp2
  go_loopw [3, 4] (fun v i wr => ∃ k : Nat, k ≤ L ∧ i = .int .i64 k ∧ wr.ownsRow w.heap.size 3 1 v (compsTo K N k).length ((compsTo K N k).map (Value.int .i64)) ∧ Below w.heap.size w wr) (fun _ i _ => L - (intOf i).toNat)
  case atStart => exact ⟨0, Nat.zero_le _, rfl, World.ownsRow_nil _ _ _ _, Below.refl _ _⟩
  case round =>
    obtain ⟨k, hk, rfl, hown, hbel⟩ := hrel
    have hlen : (compsTo K N k).length ≤ 16 := by rw [comps_len]; have := cmpTo_le K k; omega
    have hsz := hbel.size
    obtain ⟨ao, hcap, rfl, hle, hhc⟩ := own_shape hown
    clear hhc
    by_cases hlt : k < L
    · have y0 := (hbel.cell (p := ⟨b, off + k * 2, none⟩) hb).trans (HS.out k hlt).1
      have y1 := (hbel.cell (p := ⟨b, off + k * 2 + 1, none⟩) hb).trans (HS.out k hlt).2
      by_cases h1 : K k = 1
      · have bd : (K k == 1) = true := by simp [h1]
        have he : compsTo K N (k + 1) = compsTo K N k ++ [N k] := by rw [compsTo, if_pos h1]
        have HE : Hid (compsTo K N (k + 1) = compsTo K N k ++ [N k]) := he
        clear he h1
        go_wp2_with (at_builtin; refine wpList_append_own _ rfl _ _ 26 rfl w.heap.size 3 i0 (.int .i64 0) 1 8 Try.underlying26 hi hz0 hz1 hz2 rfl (by decide) _ _ _ rfl (hown.alloc _) ⟨wr.heap.size, 0, none⟩ 1 1 [.int .i64 (N k)] rfl rfl ?c1 ?c2 ?c3 ?c4 ?c5 ?_)
        case c1 => exact cell_one_at _ _ (by simp) _ _
        case c2 => exact one_oneCell rfl
        case c3 => unfold maxLen; omega
        case c4 => omega
        case c5 => simp; omega
        · intro v' w1 hown' hgrow _
          have hb1 : Below w.heap.size w w1 := (hbel.alloc hbel.size _).grown hgrow (by simp; omega) (fun k hk => (hown.lt k hk).1)
          have hown2 : w1.ownsRow w.heap.size 3 1 v' (compsTo K N (k + 1)).length ((compsTo K N (k + 1)).map (Value.int .i64)) := by rw [HE.out]; simpa using hown'
          clear hown' hgrow
          go_wp2
          go_roundw
          case rel => exact ⟨k + 1, by omega, by go_num, hown2, hb1⟩
          case measure => simp [intOf]; omega
      · have bd : (K k == 1) = false := by simp [h1]
        have he : compsTo K N (k + 1) = compsTo K N k := by rw [compsTo, if_neg h1]
        have HE : Hid (compsTo K N (k + 1) = compsTo K N k) := he
        clear he
        go_wp2
        go_roundw
        case rel => exact ⟨k + 1, by omega, by go_num, by rw [HE.out]; exact hown, hbel⟩
        case measure => simp [intOf]; omega
    · obtain rfl : k = L := by omega
      go_wp2
      go_ret
      exact ⟨_, rfl, hown, hbel⟩

end Go.Proofs.Ytdabcflpcklfiaa
