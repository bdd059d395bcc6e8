import Derived.Test.YtdabcflpcklfiaaGreatA32
import Derived.Test.YtdabcflpcklfiaaGreatA10
/- The document's kernel, walked: total and Held. -/
namespace Go.Proofs.YtdabcflpcklfiaaGreat
open Go.RowKit Cad

/-- A list of demands in memory. -/
def DemAt (w : World) (ao : Option Addr) (D : List Int) : Prop :=
  1 ≤ D.length → ∃ rb rf, ao = some ⟨rb, rf, none⟩ ∧ rb < w.heap.size ∧ IntsAt w rb rf D.length (fun q => D.getD q 0)

theorem DemAt.below {w w' : World} {ao : Option Addr} {D : List Int} (h : DemAt w ao D) (hb : Below w.heap.size w w') : DemAt w' ao D := fun h1 => by
  obtain ⟨rb, rf, e, hl, hi⟩ := h h1
  exact ⟨rb, rf, e, Nat.lt_of_lt_of_le hl hb.size, fun i hi' => (hb.cell (p := ⟨rb, rf + i, none⟩) hl).trans (hi i hi')⟩

set_option maxRecDepth 100000 in
set_option maxHeartbeats 1000000 in
theorem total_any {w : World} {ao : Option Addr} {c : Nat} (D : List Int) (hD : DemAt w ao D) (hr : ∀ i, i < D.length → 1 ≤ D.getD i 0 ∧ D.getD i 0 ≤ 100) (hl : D.length ≤ 16) :
    Calls Tryz.prog 105 #[.slice ao D.length c] w fun e w' => e = .returned (.int .i64 (sumL D)) ∧ w' = w := by
  have HD : Hid (DemAt w ao D) := hD
  have HR : Hid (∀ i, i < D.length → 1 ≤ D.getD i 0 ∧ D.getD i 0 ≤ 100) := hr
  clear hD hr
  go_enter Tryz.func105, Tryz.ntmps105
  go_wp2
  go_loopw [3, 4] (fun nv iv wr => ∃ k : Nat, k ≤ D.length ∧ nv = .int .i64 (sumL (D.take k)) ∧ iv = .int .i64 k ∧ w = wr) (fun _ iv _ => D.length - (intOf iv).toNat)
  case atStart => exact ⟨0, Nat.zero_le _, rfl, rfl, rfl⟩
  case round =>
    obtain ⟨k, hk, rfl, rfl, rfl⟩ := hrel
    by_cases hlt : k < D.length
    · obtain ⟨rb, rf, rfl, hrl, hi⟩ := HD.out (by omega)
      have hc : w.cell? ⟨rb, rf + k, none⟩ = some (.int .i64 (D.getD k 0)) := hi k hlt
      have hv := HR.out k hlt
      have hsr := sumL_range HR.out k hk
      have HS : Hid (sumL (D.take (k + 1)) = sumL (D.take k) + D.getD k 0) := sumL_snoc D k hlt
      clear hi
      generalize D.getD k 0 = x at *
      generalize sumL (D.take k) = s at *
      go_wp2
      go_roundw
      case rel => exact ⟨k + 1, by omega, by rw [HS.out], by go_num, by trivial⟩
      case measure => simp [intOf]; omega
    · obtain rfl : k = D.length := by omega
      go_wp2
      go_ret
      exact ⟨by rw [List.take_length]; rfl, rfl⟩

theorem st_next {K N : Nat → Int} {k : Nat} {h s : List Int} (h1 : stTo K N k = some h) (h2 : stTo K N (k + 1) = some s) : (K k = 1 ∧ s = h) ∨ (K k = 2 ∧ s = h ++ [N k]) ∨ (K k = 3 ∧ s = h.dropLast ∧ 0 < h.length) := by
  have e : stTo K N (k + 1) = Cad.stepF h (prevLock K k) (K k) (N k) := by
    show (stTo K N k).bind _ = _
    rw [h1]; rfl
  rw [e] at h2
  unfold Cad.stepF at h2
  split at h2
  · rename_i c
    split at h2
    · cases h2; exact .inl ⟨c, rfl⟩
    · cases h2
  · split at h2
    · rename_i c
      split at h2
      · cases h2; exact .inr (.inl ⟨c, rfl⟩)
      · cases h2
    · split at h2
      · rename_i c
        split at h2
        · rename_i c2
          cases h2
          refine .inr (.inr ⟨c, rfl, ?_⟩)
          cases h with
          | nil => simp at c2
          | cons a l => simp
        · cases h2
      · cases h2

set_option maxRecDepth 100000 in
set_option maxHeartbeats 4000000 in
theorem held_any {w : World} {b off L cap dc p : Nat} {ao : Option Addr} {K N : Nat → Int} {D h : List Int} {used : Int} (hp : progB K N L = true) (hb : b < w.heap.size) (hS : StepsAt w b off L K N) (hD : DemAt w ao D) (hf : Fits K N L (fun q => D.getD q 0) D.length)
    (hpl : PL K (numOf K N (fun q => D.getD q 0)) L p used) (hh : stTo K N p = some h) (hu : 0 ≤ used ∧ used ≤ 10000) :
    Calls Tryz.prog 77 #[.slice (some ⟨b, off, none⟩) L cap, .slice ao D.length dc, .int .i64 used] w fun e w' => ∃ v, e = .returned v ∧ w'.ownsRow w.heap.size 3 1 v h.length (h.map (Value.int .i64)) ∧ Below w.heap.size w w' := by
  obtain ⟨hL1, hL16, _, hpi⟩ := progB_inv hp
  by_cases h0 : used = 0
  · subst h0
    have hp0 : p = 0 := by
      rcases hpl with ⟨_, g⟩ | ⟨g, _⟩ | ⟨g, _⟩
      · exact g
      · omega
      · omega
    subst hp0
    have he : h = [] := by
      have e2 : stTo K N 0 = some [] := rfl
      rw [e2] at hh
      exact (Option.some.inj hh).symm
    subst he
    clear hpl hh hf hD hS hpi hp
    go_enter Tryz.func77, Tryz.ntmps77
    go_wp2
    go_ret
    exact ⟨_, rfl, World.ownsRow_nil _ _ _ _, Below.refl _ _⟩
  · obtain ⟨i0, hi, hz0, hz1, hz2⟩ := info_parts Tryz.info3
    have hM : ∀ q, q < L → K q = 1 → 1 ≤ numOf K N (fun q => D.getD q 0) q ∧ numOf K N (fun q => D.getD q 0) q ≤ 100 := by
      intro q hq h1
      have h2 := hf.1 q hq h1
      have h3 : N q ≤ 100 := by
        rcases hpi.steps q hq with g | g | g
        · exact g.2.2
        · omega
        · omega
      show 1 ≤ (if K q = 1 then _ else _) ∧ (if K q = 1 then _ else _) ≤ 100
      rw [if_pos h1]
      exact ⟨h2.2.1, by omega⟩
    have hkind : ∀ q, q < L → K q = 1 ∨ K q = 2 ∨ K q = 3 := by
      intro q hq
      rcases hpi.steps q hq with g | g | g
      · exact .inl g.1
      · exact .inr (.inl g.1)
      · exact .inr (.inr g.1)
    obtain ⟨e, he1, he2, he3, he4, he5, he6⟩ := hpl.goes (by omega) (fun q h1 h2 => (hM q h1 h2).1) hkind
    have hb0 : (used == 0) = false := by rw [beq_eq_false_iff_ne]; exact h0
    have HM : Hid (∀ q, q < L → K q = 1 → 1 ≤ numOf K N (fun q => D.getD q 0) q ∧ numOf K N (fun q => D.getD q 0) q ≤ 100) := hM
    have HF : Hid (Fits K N L (fun q => D.getD q 0) D.length) := hf
    have HE3 : Hid (goesOn K (numOf K N (fun q => D.getD q 0)) L used e) := he3
    have HE6 : Hid _ := he6
    have HS : Hid (StepsAt w b off L K N) := hS
    have HDM : Hid (DemAt w ao D) := hD
    have HH : Hid (stTo K N p = some h) := hh
    have HP : Hid (progB K N L = true) := hp
    have hDL : D.length ≤ 16 := by have h2 : cmpTo K L = D.length := hf.2; have := cmpTo_le K L; omega
    have HMV : Hid (∀ q, K q = 1 → numOf K N (fun q => D.getD q 0) q = D.getD (cmpTo K q) 0) := fun q hq => if_pos hq
    have HDR : Hid (∀ q, q ≤ L → 0 ≤ demTo K (numOf K N (fun q => D.getD q 0)) q ∧ demTo K (numOf K N (fun q => D.getD q 0)) q ≤ 100 * (q : Int)) := by
      intro q hq
      have := dem_diff (K := K) (N := numOf K N (fun q => D.getD q 0)) (a := 0) q (fun i _ h2 h3 => hM i (by omega) h3)
      rw [Nat.zero_add] at this
      have e0 : demTo K (numOf K N (fun q => D.getD q 0)) 0 = 0 := rfl
      omega
    generalize hMe : numOf K N (fun q => D.getD q 0) = M at *
    clear hpl hh hf hD hS hpi hp hM hkind he3 he4 he6 hMe h0
    go_enter Tryz.func77, Tryz.ntmps77
    go_wp2
    go_loopw [2, 7, 8, 9] (fun uv v nv iv wr => ∃ (k : Nat) (s : List Int), k ≤ e ∧ uv = .int .i64 (used - demTo K M k) ∧ nv = .int .i64 (cmpTo K k : Nat) ∧ iv = .int .i64 k ∧ stTo K N k = some s ∧ wr.ownsRow w.heap.size 3 1 v s.length (s.map (Value.int .i64)) ∧ Below w.heap.size w wr) (fun _ _ _ iv _ => L - (intOf iv).toNat)
    case atStart => exact ⟨0, [], Nat.zero_le _, by show _ = Value.int .i64 (used - 0); rw [Int.sub_zero], rfl, rfl, rfl, World.ownsRow_nil _ _ _ _, Below.refl _ _⟩
    case round =>
      obtain ⟨k, s, hk, rfl, rfl, rfl, hst, hown, hbel⟩ := hrel
      have hkL : k < L := by omega
      have hsl : s.length ≤ k := Cad.stTo_len _ _ _ _ hst
      obtain ⟨s', hs'⟩ := st_some HP.out (e := k + 1) (by omega)
      have hnx := st_next hst hs'
      have HST : Hid (stTo K N k = some s) := hst
      have HS' : Hid (stTo K N (k + 1) = some s') := hs'
      have hck : wr.cell? ⟨b, off + k * 2, none⟩ = some (.int .i64 (K k)) := (hbel.cell (by exact hb)).trans (HS.out k hkL).1
      have hcn : wr.cell? ⟨b, off + k * 2 + 1, none⟩ = some (.int .i64 (N k)) := (hbel.cell (by exact hb)).trans (HS.out k hkL).2
      have hbwr : b < wr.heap.size := Nat.lt_of_lt_of_le hb hbel.size
      have hsz : w.heap.size ≤ wr.heap.size := hbel.size
      have hdr := HDR.out k (by omega)
      have HB : Hid (Below w.heap.size w wr) := hbel
      obtain ⟨ao2, cp2, rfl, hle2, hhc⟩ := own_shape hown
      have HOWN : Hid (wr.ownsRow w.heap.size 3 1 (.slice ao2 s.length cp2) s.length (s.map (Value.int .i64))) := hown
      have HHC : Hid (∀ i, i < s.length → ∃ g, ao2 = some ⟨g, 0, none⟩ ∧ w.heap.size ≤ g ∧ g < wr.heap.size ∧ wr.cell? ⟨g, i, none⟩ = some (.int .i64 (s.getD i 0))) := hhc
      have same : ∀ x, stTo K N p = some x → x = h := fun x hx => by rw [HH.out] at hx; exact (Option.some.inj hx).symm
      clear hhc hst hs' hbel
      rcases hnx with ⟨hk1, rfl⟩ | ⟨hk2, rfl⟩ | ⟨hk3, rfl, hpos⟩
      · -- a Compute
        have hcd := dem_comp (M := M) hk1
        have hcc : cmpTo K (k + 1) = cmpTo K k + 1 := if_pos hk1
        have hmr := HM.out k hkL hk1
        have hmv := HMV.out k hk1
        have hcl := (HF.out.1 k hkL hk1).1
        obtain ⟨rb, rf, rfl, hrl, hri⟩ := (HDM.out.below HB.out) (by omega)
        have hcd2 : wr.cell? ⟨rb, rf + cmpTo K k, none⟩ = some (.int .i64 (D.getD (cmpTo K k) 0)) := hri _ hcl
        rw [← hmv] at hcd2
        rw [hk1] at hck
        have HG := HE3.out k
        clear hri
        have hc1 : k + 1 < L → wr.cell? ⟨b, off + (k + 1) * 2, none⟩ = some (.int .i64 (K (k + 1))) := fun g => (HB.out.cell (p := ⟨b, off + (k + 1) * 2, none⟩) hb).trans (HS.out (k + 1) g).1
        have HD1 : Hid (demTo K M (k + 1) = demTo K M k + M k) := hcd
        have HC1 : Hid (cmpTo K (k + 1) = cmpTo K k + 1) := hcc
        by_cases hneg : used - demTo K M k - M k < 0
        · have hke : k = e := by
            by_cases c : k < e
            · have := (HG c).1 hk1
              omega
            · omega
          have hkp : s' = h := by
            rcases HE6.out with ⟨g, _⟩ | ⟨g1, g2, g3, _⟩
            · exact same s' (by rw [← g, ← hke]; exact HST.out)
            · rw [← hke] at g3; omega
          have HHS : Hid (s' = h) := hkp
          have bn : decide (used - demTo K M k - M k < 0) = true := decide_eq_true hneg
          clear hkp hc1 same HG hke hk1 hcd hcc hmv
          generalize demTo K M k = dk at *
          generalize M k = mk at *
          generalize cmpTo K k = ck at *
          go_wp2
          go_ret
          exact ⟨_, rfl, by rw [← HHS.out]; exact HOWN.out, HB.out⟩
        · have bn : decide (used - demTo K M k - M k < 0) = false := decide_eq_false hneg
          by_cases hz : used - demTo K M k - M k = 0
          · have bz : (used - demTo K M k - M k == 0) = true := by rw [beq_iff_eq]; exact hz
            have hk1L : k + 1 < L := by
              by_cases c : k < e
              · omega
              · have hke : k = e := by omega
                rcases HE6.out with ⟨g, g1 | g1⟩ | ⟨g1, _⟩
                · rw [← g, ← hke] at g1; omega
                · rw [← g, ← hke] at g1; omega
                · omega
            have c1 := hc1 hk1L
            have bl : decide ((k : Int) + 1 < (L : Int)) = true := decide_eq_true (by omega)
            by_cases hke : k = e
            · have hk3 : K (k + 1) ≠ 3 := by
                rcases HE6.out with ⟨g, g1 | g1⟩ | ⟨_, _, _, g1⟩
                · rw [← g, ← hke] at g1; omega
                · rw [← g, ← hke] at g1; omega
                · rw [← hke] at g1; exact g1
              have hkp : s' = h := by
                rcases HE6.out with ⟨g, g1 | g1⟩ | ⟨g1, _⟩
                · rw [← g, ← hke] at g1; omega
                · rw [← g, ← hke] at g1; omega
                · exact same s' (by rw [← g1, ← hke]; exact HS'.out)
              have HHS : Hid (s' = h) := hkp
              have b3 : (K (k + 1) == 3) = false := by rw [beq_eq_false_iff_ne]; exact hk3
              clear hkp hc1 same HG hke hk1 hcd hcc hmv hk3 hz
              generalize K (k + 1) = kn at *
              generalize demTo K M k = dk at *
              generalize M k = mk at *
              generalize cmpTo K k = ck at *
              go_wp2
              go_ret
              exact ⟨_, rfl, by rw [← HHS.out]; exact HOWN.out, HB.out⟩
            · have hk3 : K (k + 1) = 3 := by
                have g := (HG (by omega)).2.2
                by_cases c : K (k + 1) = 3
                · exact c
                · exact absurd ⟨by omega, hk1, hk1L, c⟩ g
              rw [hk3] at c1
              clear hc1 same HG hk1 hcd hcc hmv hk3 hz
              generalize demTo K M k = dk at *
              generalize M k = mk at *
              generalize cmpTo K k = ck at *
              go_wp2
              go_roundw
              case rel => exact ⟨k + 1, s', by omega, by rw [HD1.out]; go_num, by rw [HC1.out]; go_num, by go_num, HS'.out, HOWN.out, HB.out⟩
              case measure => simp [intOf]; omega
          · have bz : (used - demTo K M k - M k == 0) = false := by rw [beq_eq_false_iff_ne]; exact hz
            have hke : k < e := by
              by_cases c : k < e
              · exact c
              · have hke : k = e := by omega
                rcases HE6.out with ⟨g, g1 | g1⟩ | ⟨_, _, g1, _⟩
                · rw [← g, ← hke] at g1; omega
                · rw [← g, ← hke] at g1; omega
                · rw [← hke] at g1; omega
            clear hc1 same HG hk1 hcd hcc hmv hz
            generalize demTo K M k = dk at *
            generalize M k = mk at *
            generalize cmpTo K k = ck at *
            go_wp2
            go_roundw
            case rel => exact ⟨k + 1, s', by omega, by rw [HD1.out]; go_num, by rw [HC1.out]; go_num, by go_num, HS'.out, HOWN.out, HB.out⟩
            case measure => simp [intOf]; omega
      · -- a Lock
        have hcd : demTo K M (k + 1) = demTo K M k := by
          show demTo K M k + (if K k = 1 then _ else 0) = _
          rw [if_neg (by omega)]; omega
        have hcc : cmpTo K (k + 1) = cmpTo K k := if_neg (by omega)
        rw [hk2] at hck
        have HD1 : Hid (demTo K M (k + 1) = demTo K M k) := hcd
        have HC1 : Hid (cmpTo K (k + 1) = cmpTo K k) := hcc
        by_cases hz : used - demTo K M k = 0
        · have bz : (used - demTo K M k == 0) = true := by rw [beq_iff_eq]; exact hz
          have hke : k = e := by
            by_cases c : k < e
            · exact absurd hz ((HE3.out k c).2.1 hk2)
            · omega
          have hkp : s = h := by
            rcases HE6.out with ⟨g, _⟩ | ⟨g1, g2, _⟩
            · exact same s (by rw [← g, ← hke]; exact HST.out)
            · rw [← hke] at g2; omega
          have HHS : Hid (s = h) := hkp
          clear hkp same hke hk2 hcd hcc hz
          generalize demTo K M k = dk at *
          generalize cmpTo K k = ck at *
          go_wp2
          go_ret
          exact ⟨_, rfl, by rw [← HHS.out]; exact HOWN.out, HB.out⟩
        · have bz : (used - demTo K M k == 0) = false := by rw [beq_eq_false_iff_ne]; exact hz
          have hke : k < e := by
            by_cases c : k < e
            · exact c
            · have hke : k = e := by omega
              rcases HE6.out with ⟨g, g1 | g1⟩ | ⟨_, g1, _⟩
              · rw [← g, ← hke] at g1; omega
              · rw [← g, ← hke] at g1; omega
              · rw [← hke] at g1; omega
          clear same hk2 hcd hcc hz
          generalize demTo K M k = dk at *
          generalize cmpTo K k = ck at *
          generalize N k = nn at *
          go_wp2_with (at_builtin; refine wpList_append_own _ rfl _ _ 23 rfl w.heap.size 3 i0 (.int .i64 0) 1 8 Tryz.underlying23 hi hz0 hz1 hz2 rfl (by decide) _ _ _ rfl (HOWN.out.alloc _) ⟨wr.heap.size, 0, none⟩ 1 1 [.int .i64 nn] rfl rfl ?c1 ?c2 ?c3 ?c4 ?c5 ?_)
          case c1 => exact cell_one_at _ _ (by simp) _ _
          case c2 => exact one_oneCell rfl
          case c3 => unfold maxLen; omega
          case c4 => omega
          case c5 => simp; omega
          · intro v' w1 hown' hgrow _
            have hb1 : Below w.heap.size w w1 := (HB.out.alloc hsz _).grown hgrow (by simp; omega) (fun k hk => (HOWN.out.lt k hk).1)
            have hown2 : w1.ownsRow w.heap.size 3 1 v' (s ++ [nn]).length ((s ++ [nn]).map (Value.int .i64)) := by simpa using hown'
            have HO2 : Hid _ := hown2
            have HB2 : Hid (Below w.heap.size w w1) := hb1
            clear hown' hgrow hown2 hb1
            go_wp2
            go_roundw
            case rel => exact ⟨k + 1, _, by omega, by rw [HD1.out], by rw [HC1.out], by go_num, HS'.out, HO2.out, HB2.out⟩
            case measure => simp [intOf]; omega
      · -- an Unlock
        have hcd : demTo K M (k + 1) = demTo K M k := by
          show demTo K M k + (if K k = 1 then _ else 0) = _
          rw [if_neg (by omega)]; omega
        have hcc : cmpTo K (k + 1) = cmpTo K k := if_neg (by omega)
        rw [hk3] at hck
        have HD1 : Hid (demTo K M (k + 1) = demTo K M k) := hcd
        have HC1 : Hid (cmpTo K (k + 1) = cmpTo K k) := hcc
        have hke : k < e := by
          by_cases c : k < e
          · exact c
          · have hke : k = e := by omega
            rcases HE6.out with ⟨g, g1 | g1⟩ | ⟨_, g1, _⟩
            · rw [← g, ← hke] at g1; omega
            · rw [← g, ← hke] at g1; omega
            · rw [← hke] at g1; omega
        obtain ⟨g, rfl, _, _, _⟩ := HHC.out 0 hpos
        have hpop := own_pop hpos HOWN.out
        have hdl : s.dropLast.length = s.length - 1 := by simp
        have HPOP : Hid (wr.ownsRow w.heap.size 3 1 (.slice (some ⟨g, 0, none⟩) (s.length - 1) cp2) s.dropLast.length (s.dropLast.map (Value.int .i64))) := by
          unfold Hid
          rw [← hdl]
          exact hpop
        clear same hk3 hcd hcc hpop hdl
        generalize demTo K M k = dk at *
        generalize cmpTo K k = ck at *
        obtain ⟨ls, hls⟩ : ∃ ls, s.length = ls + 1 := ⟨s.length - 1, by omega⟩
        have HPOP2 : Hid (wr.ownsRow w.heap.size 3 1 (.slice (some ⟨g, 0, none⟩) ls cp2) s.dropLast.length (s.dropLast.map (Value.int .i64))) := by
          have := HPOP.out
          rw [hls, Nat.add_sub_cancel] at this
          exact this
        rw [hls] at hle2 hsl
        by_cases hz : used - dk = 0
        · have bz : (used - dk == 0) = true := by rw [beq_iff_eq]; exact hz
          rw [hls]
          clear hz HPOP hpos
          go_wp2
          all_goals
            go_roundw
            case rel => exact ⟨k + 1, _, by omega, by rw [HD1.out], by rw [HC1.out], by go_num, HS'.out, HPOP2.out, HB.out⟩
            case measure => simp [intOf]; omega
        · have bz : (used - dk == 0) = false := by rw [beq_eq_false_iff_ne]; exact hz
          rw [hls]
          clear hz HPOP hpos
          go_wp2
          all_goals
            go_roundw
            case rel => exact ⟨k + 1, _, by omega, by rw [HD1.out], by rw [HC1.out], by go_num, HS'.out, HPOP2.out, HB.out⟩
            case measure => simp [intOf]; omega

end Go.Proofs.YtdabcflpcklfiaaGreat
