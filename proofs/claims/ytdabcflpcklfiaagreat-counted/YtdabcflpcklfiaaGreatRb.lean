import Derived.Test.YtdabcflpcklfiaaGreatRa
import Derived.Test.YtdabcflpcklfiaaGreatK34
/- Demands out of raw numbers, and a job with them arrives. -/
namespace Go.Proofs.YtdabcflpcklfiaaGreat
open Go.RowKit Cad

/-- The demands, when the first k of them have been picked. -/
def demsK (l : List Int) (R : Nat → Int) : Nat → List Int
  | 0 => l
  | k + 1 => (demsK l R k).set k (1 + pickI (R k) (l.getD k 0))

theorem demsK_len (l : List Int) (R : Nat → Int) : ∀ k, (demsK l R k).length = l.length
  | 0 => rfl
  | k + 1 => by rw [demsK, List.length_set, demsK_len l R k]

theorem demsK_get (l : List Int) (R : Nat → Int) : ∀ k i, i < l.length → (demsK l R k).getD i 0 = if i < k then 1 + pickI (R i) (l.getD i 0) else l.getD i 0
  | 0, i, _ => by rw [if_neg (by omega)]; rfl
  | k + 1, i, hi => by
    have ih := demsK_get l R k i hi
    have hlen := demsK_len l R k
    rw [demsK]
    simp only [List.getD_eq_getElem?_getD, List.getElem?_set] at ih ⊢
    by_cases e : k = i
    · subst e
      rw [if_pos rfl, if_pos (by omega), if_pos (by omega)]
      rfl
    · rw [if_neg e, ih]
      by_cases h : i < k
      · rw [if_pos h, if_pos (by omega)]
      · rw [if_neg h, if_neg (by omega)]

/-- How many are picked. -/
def demsOf (K N : Nat → Int) (L : Nat) (R : Nat → Int) (rn : Nat) : List Int := demsK (compsTo K N L) R (min (compsTo K N L).length rn)

theorem demsOf_len (K N : Nat → Int) (L : Nat) (R : Nat → Int) (rn : Nat) : (demsOf K N L R rn).length = cmpTo K L := by
  unfold demsOf
  rw [demsK_len, comps_len]

/-- Whatever the raw numbers, the demands may be. -/
theorem demsOf_fits {K N : Nat → Int} {L : Nat} (R : Nat → Int) (rn : Nat) (h : ∀ k, k < L → K k = 1 → 1 ≤ N k) : Fits K N L (fun q => (demsOf K N L R rn).getD q 0) (demsOf K N L R rn).length := by
  refine ⟨fun k hk h1 => ?_, (demsOf_len K N L R rn).symm⟩
  have hc := comps_at (N := N) L k hk h1
  have hlt := (List.getElem?_eq_some_iff.1 hc).1
  have hv : (compsTo K N L).getD (cmpTo K k) 0 = N k := by simp [List.getD, hc]
  have h1k := h k hk h1
  have hg : (demsOf K N L R rn).getD (cmpTo K k) 0 = if cmpTo K k < min (compsTo K N L).length rn then 1 + pickI (R (cmpTo K k)) (N k) else N k := by
    unfold demsOf
    rw [demsK_get _ _ _ _ hlt, hv]
  have hp := pickI_range (c := R (cmpTo K k)) h1k
  refine ⟨by rw [demsOf_len, ← comps_len K N L]; exact hlt, ?_, ?_⟩
  · show 1 ≤ (demsOf K N L R rn).getD (cmpTo K k) 0
    rw [hg]; split <;> omega
  · show (demsOf K N L R rn).getD (cmpTo K k) 0 ≤ N k
    rw [hg]; split <;> omega

theorem comps_range {K N : Nat → Int} : ∀ L, (∀ k, k < L → K k = 1 → 1 ≤ N k ∧ N k ≤ 100) → ∀ x ∈ compsTo K N L, 1 ≤ x ∧ x ≤ 100
  | 0, _, x, hx => by simp [compsTo] at hx
  | L + 1, h, x, hx => by
    unfold compsTo at hx
    split at hx
    · rename_i h1
      rcases List.mem_append.1 hx with g | g
      · exact comps_range L (fun k hk => h k (by omega)) x g
      · simp at g
        subst g
        exact h L (by omega) h1
    · exact comps_range L (fun k hk => h k (by omega)) x hx

set_option maxRecDepth 100000 in
set_option maxHeartbeats 1000000 in
theorem dems_any (b off L cap rn rc : Nat) (ro : Option Addr) (K N R : Nat → Int) (w : World) (hL : L ≤ 16) (hN : ∀ k, k < L → K k = 1 → 1 ≤ N k ∧ N k ≤ 100) (hb : b < w.heap.size) (hS : StepsAt w b off L K N) (hrn : rn ≤ 9223372036854775806)
    (hR : 1 ≤ rn → ∃ rb rf, ro = some ⟨rb, rf, none⟩ ∧ rb < w.heap.size ∧ IntsAt w rb rf rn R) (hRI : ∀ q, q < rn → I64 (R q)) :
    Calls Tryz.prog 27 #[.slice (some ⟨b, off, none⟩) L cap, .slice ro rn rc] w fun e w' => ∃ v, e = .returned v ∧ w'.ownsRow w.heap.size 3 1 v (demsOf K N L R rn).length ((demsOf K N L R rn).map (Value.int .i64)) ∧ Below w.heap.size w w' := by
  have HS : Hid (StepsAt w b off L K N) := hS
  have HR : Hid (1 ≤ rn → ∃ rb rf, ro = some ⟨rb, rf, none⟩ ∧ rb < w.heap.size ∧ IntsAt w rb rf rn R) := hR
  have HRI : Hid (∀ q, q < rn → I64 (R q)) := hRI
  have HN : Hid (∀ x ∈ compsTo K N L, 1 ≤ x ∧ x ≤ 100) := comps_range L hN
  have hcl : (compsTo K N L).length ≤ 16 := by rw [comps_len]; have := cmpTo_le K L; omega
  clear hS hR hRI hN
  unfold demsOf
  go_enter Tryz.func27, Tryz.ntmps27
  go_wp2_with fail
  refine (computes_any b off L cap K N w hL hb HS.out).mono ?_
  rintro e w1 ⟨v, rfl, hown1, hb1⟩
  have HO1 : Hid (w1.ownsRow w.heap.size 3 1 v (compsTo K N L).length ((compsTo K N L).map (Value.int .i64))) := hown1
  have HB1 : Hid (Below w.heap.size w w1) := hb1
  obtain ⟨ao, vc, rfl⟩ := own_shapeK hown1
  clear hown1 hb1
  generalize hl0 : compsTo K N L = l at *
  have HL0 : Hid (compsTo K N L = l) := hl0
  clear hl0
  go_wp2_with fail
  go_loopw [6] (fun iv wr => ∃ k : Nat, k ≤ min l.length rn ∧ iv = .int .i64 k ∧ wr.ownsRow w.heap.size 3 1 (.slice ao l.length vc) l.length ((demsK l R k).map (Value.int .i64)) ∧ Below w.heap.size w wr) (fun iv _ => l.length - (intOf iv).toNat)
  case atStart => exact ⟨0, Nat.zero_le _, rfl, HO1.out, HB1.out⟩
  case round =>
    clear HO1 HB1
    obtain ⟨k, hk, rfl, hown, hbel⟩ := hrel
    have HBE : Hid (Below w.heap.size w wr) := hbel
    have hsz := hbel.size
    clear hbel
    by_cases hlt : k < l.length
    · by_cases hlr : k < rn
      · have bc : decide ((k : Int) < (l.length : Int)) = true := by simpa using hlt
        have bc2 : decide ((k : Int) < (rn : Int)) = true := by simpa using hlr
        obtain ⟨g, e⟩ : ∃ g, ao = some ⟨g, 0, none⟩ := by
          obtain ⟨_, ⟨h, h0⟩ | ⟨g, cp, cur, h, _⟩⟩ := hown
          · omega
          · cases h; exact ⟨g, rfl⟩
        subst e
        have hdl := demsK_len l R k
        have hgk := demsK_get l R k k hlt
        rw [if_neg (by omega)] at hgk
        obtain ⟨x, hx⟩ : ∃ x, l[k]? = some x := ⟨_, List.getElem?_eq_getElem hlt⟩
        have hgx : l.getD k 0 = x := by simp [List.getD, hx]
        have hxr := HN.out x (List.mem_of_getElem? hx)
        have y0 : wr.cell? ⟨g, k, none⟩ = some (.int .i64 x) := by
          have h1 : ((demsK l R k).map (Value.int .i64))[k]? = some (.int .i64 x) := by
            rw [List.getElem?_map]
            have : (demsK l R k)[k]? = some x := by
              rw [hgx] at hgk
              rw [List.getD_eq_getElem?_getD] at hgk
              rw [List.getElem?_eq_getElem (by omega)] at hgk ⊢
              simpa using hgk
            rw [this]; rfl
          have := hown.cells (g := g) rfl k _ h1
          rwa [Addr.add_lit, Nat.zero_add] at this
        have z0 : wr.frozen? ⟨g, k, none⟩ = false := hown.frozenAt k
        obtain ⟨rb, rf, rfl, hrb, hri⟩ := HR.out (by omega)
        have y1 : wr.cell? ⟨rb, rf + k, none⟩ = some (.int .i64 (R k)) := (HBE.out.cell (p := ⟨rb, rf + k, none⟩) hrb).trans (hri k hlr)
        have hpk := pickI_range (c := R k) hxr.1
        have FO : Hid ((wr.setCell ⟨g, k, none⟩ (.int .i64 (1 + pickI (R k) x))).ownsRow w.heap.size 3 1 (.slice (some ⟨g, 0, none⟩) l.length vc) l.length ((demsK l R (k + 1)).map (Value.int .i64))) := by
          have h1 := hown.stored k (.int .i64 (1 + pickI (R k) x))
          have h2 : ((demsK l R k).map (Value.int .i64)).set k (.int .i64 (1 + pickI (R k) x)) = (demsK l R (k + 1)).map (Value.int .i64) := by rw [demsK, hgx, List.map_set]
          rw [← h2]
          exact h1.1
        have hgl := (hown.lt g rfl)
        have FB : Hid (Below w.heap.size w (wr.setCell ⟨g, k, none⟩ (.int .i64 (1 + pickI (R k) x)))) := HBE.out.setCell hgl.1 _
        have HPK : Hid (∀ w', Calls Tryz.prog 10 #[.int .i64 (R k), .int .i64 x] w' fun e w'' => e = .returned (.int .i64 (pickI (R k) x)) ∧ w'' = w') := fun w' => pick_any _ _ w' (HRI.out k hlr) hxr.1 (by omega)
        have hrbw : rb < wr.heap.size := by omega
        clear hown hx hgx hgk
        generalize pickI (R k) x = pk at *
        go_wp2_with fail
        go_region_with (go_at_call 10; refine (HPK.out _).mono ?_; rintro e w5 ⟨rfl, rfl⟩)
        all_goals
          go_wp2
          go_roundw
          case rel => exact ⟨k + 1, by omega, by go_num, FO.out, ⟨FB.out.os, FB.out.tape, FB.out.output, FB.out.size, FB.out.block⟩⟩
          case measure => simp [intOf]; omega
      · have bc : decide ((k : Int) < (l.length : Int)) = true := by simpa using hlt
        have bc2 : decide ((k : Int) < (rn : Int)) = false := by simp; omega
        obtain rfl : k = rn := by omega
        have HOW : Hid (wr.ownsRow w.heap.size 3 1 (.slice ao l.length vc) (demsK l R (min l.length k)).length ((demsK l R (min l.length k)).map (Value.int .i64))) := by
          unfold Hid
          rw [Nat.min_eq_right (by omega), demsK_len]
          exact hown
        clear hown
        go_wp2
        go_ret
        exact ⟨_, rfl, by rw [HL0.out]; exact HOW.out, HBE.out⟩
    · obtain rfl : k = l.length := by omega
      have bc : decide ((l.length : Int) < (l.length : Int)) = false := by simp
      have HOW : Hid (wr.ownsRow w.heap.size 3 1 (.slice ao l.length vc) (demsK l R (min l.length rn)).length ((demsK l R (min l.length rn)).map (Value.int .i64))) := by
        unfold Hid
        rw [Nat.min_eq_left (by omega), demsK_len]
        exact hown
      clear hown
      go_wp2
      go_ret
      exact ⟨_, rfl, by rw [HL0.out]; exact HOW.out, HBE.out⟩

end Go.Proofs.YtdabcflpcklfiaaGreat
