import Derived.Test.YtdabcflpcklfiaaMw
/- The ceilings are raised. -/
namespace Go.Proofs.Ytdabcflpcklfiaa
open Go.RowKit Cad

/-- The machine's cells, with other ceilings. -/
def fc (f : Nat → Value) (c : Nat → Int) (q : Nat) : Value := if 4 ≤ q ∧ q < 12 then .int .i64 (c (q - 4)) else f q

theorem fc_set {wr : World} {mb : Nat} {f : Nat → Value} {c : Nat → Int} (hm : wr.rowIs mb 135 22 (fc f c)) {r : Nat} (hr : r < 8) (x : Int) : (wr.setCell ⟨mb, 4 + r, none⟩ (.int .i64 x)).rowIs mb 135 22 (fc f (upd c r x)) :=
  (hm.set (4 + r) (.int .i64 x)).congr (fun q hq => by
    show (if q = 4 + r then Value.int .i64 x else fc f c q) = _
    unfold fc upd
    by_cases e : q = 4 + r
    · rw [if_pos e, if_pos (by omega), if_pos (by omega)]
    · rw [if_neg e]
      by_cases d : 4 ≤ q ∧ q < 12
      · rw [if_pos d, if_pos d, if_neg (by omega)]
      · rw [if_neg d, if_neg d])

theorem fc_cell {wr : World} {mb : Nat} {f : Nat → Value} {c : Nat → Int} (hm : wr.rowIs mb 135 22 (fc f c)) {r : Nat} (hr : r < 8) : wr.cell? ⟨mb, 4 + r, none⟩ = some (.int .i64 (c r)) := by
  rw [hm.cell (by omega)]
  unfold fc
  rw [if_pos (by omega), show 4 + r - 4 = r from by omega]

theorem max_ifX (a b : Int) : (if a < b then b else a) = max a b := by
  by_cases h : a < b
  · rw [if_pos h, Int.max_eq_right (by omega)]
  · rw [if_neg h, Int.max_eq_left (by omega)]

set_option maxRecDepth 100000 in
set_option maxHeartbeats 2000000 in
theorem raise_any (mb g off L cap : Nat) (K N c : Nat → Int) (z : Int) (f : Nat → Value) (w : World) (hL : L ≤ 16) (hg : g < w.heap.size) (hne : g ≠ mb) (hm : w.rowIs mb 135 22 (fc f c)) (hs : StepsIn w g off K N L) (hN : ∀ i, i < L → K i = 2 → 0 ≤ N i ∧ N i ≤ 7) :
    Calls Try.prog 91 #[.pointer (some ⟨mb, 0, none⟩), .slice (some ⟨g, off, none⟩) L cap, .int .i64 z] w fun e w' => e = .returned (.tuple #[]) ∧ w'.rowIs mb 135 22 (fc f (ceilK K N z c L)) ∧ Fr (fun i => i = mb) w w' := by
  have HS : Hid (StepsIn w g off K N L) := hs
  have HN : Hid (∀ i, i < L → K i = 2 → 0 ≤ N i ∧ N i ≤ 7) := hN
  have HM : Hid (w.rowIs mb 135 22 (fc f c)) := hm
  have hml := hm.lt
  clear hs hN hm
  go_enter Try.func91, Try.ntmps91
  go_wp2
  go_loopw [10] (fun i wr => ∃ k : Nat, k ≤ L ∧ i = .int .i64 k ∧ wr.rowIs mb 135 22 (fc f (ceilK K N z c k)) ∧ Fr (fun i => i = mb) w wr) (fun i _ => L - (intOf i).toNat)
  case atStart => exact ⟨0, Nat.zero_le _, rfl, HM.out, Fr.refl _ _⟩
  case round =>
    obtain ⟨k, hk, rfl, hrow, hfr⟩ := hrel
    have hsz := hfr.size
    have hrl := hrow.lt
    have HR : Hid (wr.rowIs mb 135 22 (fc f (ceilK K N z c k))) := hrow
    have HF : Hid (Fr (fun i => i = mb) w wr) := hfr
    by_cases hlt : k < L
    · have y0 := (hfr.cell (i := off + k * 2) hg hne).trans (HS.out k hlt).1
      have y1 := (hfr.cell (i := off + k * 2 + 1) hg hne).trans (HS.out k hlt).2
      have hgw : g < wr.heap.size := by omega
      by_cases h2 : K k = 2
      · obtain ⟨r, hr8, hr⟩ : ∃ r : Nat, r < 8 ∧ N k = (r : Int) := by
          have := HN.out k hlt h2
          exact ⟨(N k).toNat, by omega, by omega⟩
        have hb : (K k == 2) = true := by simpa using h2
        have x := fc_cell hrow hr8
        have zf := hrow.frozen (4 + r)
        have hr8' : (r : Int) < 8 := by omega
        rw [hr] at y1
        have HE : Hid (ceilK K N z c (k + 1) = upd (ceilK K N z c k) r (max (ceilK K N z c k r) z)) := by
          unfold Hid
          rw [ceilK, if_pos h2, hr]
          rfl
        clear hrow hfr
        go_wp2_with fail
        go_region
        all_goals
          go_wp2_with fail
          go_roundw
          case rel =>
            refine ⟨k + 1, by omega, by go_num, ?_, ?_⟩
            · rw [HE.out, max_ifX]
              exact ((fc_set HR.out hr8 _).alloc _).drew
            · exact ((HF.out.setCell (a := ⟨mb, 4 + r, none⟩) (.inl rfl) _).alloc _).drew
          case measure => simp [intOf]; omega
      · have hb : (K k == 2) = false := by simpa using h2
        have HE : Hid (ceilK K N z c (k + 1) = ceilK K N z c k) := by
          unfold Hid
          rw [ceilK, if_neg h2]
        clear hrow hfr
        go_wp2
        go_roundw
        case rel => exact ⟨k + 1, by omega, by go_num, by rw [HE.out]; exact HR.out.alloc _, HF.out.alloc _⟩
        case measure => simp [intOf]; omega
    · obtain rfl : k = L := by omega
      go_wp2
      go_end0
      exact ⟨rfl, HR.out, HF.out⟩
end Go.Proofs.Ytdabcflpcklfiaa
