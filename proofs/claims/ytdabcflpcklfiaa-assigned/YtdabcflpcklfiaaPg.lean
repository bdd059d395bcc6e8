import Derived.Test.YtdabcflpcklfiaaPa
import Derived.Test.YtdabcflpcklfiaaK33
/- The law tries every order: if one of them has all bounds, it is possible. -/
namespace Go.Proofs.Ytdabcflpcklfiaa
open Go.RowKit Cad

theorem row_set_int {w : World} {pb n : Nat} {F : Nat → Int} (h : w.rowIs pb 3 n (fun q => .int .i64 (F q))) (i : Nat) (x : Int) : (w.setCell ⟨pb, i, none⟩ (.int .i64 x)).rowIs pb 3 n (fun q => .int .i64 (updZ F i x q)) :=
  (h.set i (.int .i64 x)).congr (fun q _ => by
    unfold updZ
    by_cases e : q = i
    · rw [if_pos e, if_pos e]
    · rw [if_neg e, if_neg e])

/-- What the trying answers. -/
def TriesC (T : TD) (w0 : World) (b off n cap pb d : Nat) : Prop := ∀ (next : Nat) (F : Nat → Int) (w : World), next + d = n → Below w0.heap.size w0 w → w.rowIs pb 3 n (fun q => .int .i64 (F q)) →
  Calls Try.prog 18 #[.slice (some ⟨b, off, none⟩) n cap, .slice (some ⟨pb, 0, none⟩) n n, .int .i64 next] w fun e w' => ∃ (t : Bool) (F' : Nat → Int), e = .returned (.bool t) ∧ (t = true → Poss T n (fun q => decide (q < n))) ∧ w'.rowIs pb 3 n (fun q => .int .i64 (F' q)) ∧ Below w0.heap.size w w'

set_option maxRecDepth 100000 in
set_option maxHeartbeats 2000000 in
theorem tries_end {T : TD} {w0 : World} {b off n cap pb : Nat} (hc : chkR T n = (0, 0)) (hb : b < w0.heap.size) (hT : TasksAt w0 b off n T) : TriesC T w0 b off n cap pb 0 := by
  intro next F w hn hbel hrow
  obtain rfl : next = n := by omega
  have h8 := (good_of_chk hc).1.eight
  have HT : Hid (TasksAt w b off next T) := TasksAt.below hT hb hbel
  have HC : Hid (chkR T next = (0, 0)) := hc
  have HROW : Hid (w.rowIs pb 3 next (fun q => .int .i64 (F q))) := hrow
  have hbw : b < w.heap.size := by have := hbel.size; omega
  have hs0 := hbel.size
  have hpl := hrow.lt
  have HI : Hid (IntsAt w pb 0 next F) := fun i hi => by rw [Nat.zero_add]; exact hrow.cell hi
  have hee : ((next : Int) == (next : Int)) = true := by simp
  clear hT hc hrow hbel
  go_enter Try.func18, Try.ntmps18
  go_wp2_with fail
  by_cases hp : PrioB F next
  · refine (ana_ok b off next cap pb 0 next T F w HC.out hbw hpl HT.out HI.out hp).mono ?_
    rintro e w1 ⟨g, R, rfl, hg, hrg, hR, hb1⟩
    have HRG : Hid (w1.rowIs g 3 next (fun q => .int .i64 (R q))) := hrg
    have HB1 : Hid (Below w.heap.size w w1) := hb1
    have HR : Hid (∀ i, i < next → CodeB T F next i (R i)) := hR
    have HP : Hid (PrioB F next) := hp
    clear hrg hb1 hR hp
    go_wp2_with fail
    refine (accepted_any g next next R _ w1 h8 HRG.out rfl).mono ?_
    rintro e w2 ⟨rfl, hb2⟩
    have HB2 : Hid (Below w.heap.size w w2) := HB1.out.trans (hb2.mono HB1.out.size)
    have HOK : Hid (decide (∀ i, i < next → 0 < R i) = true → Poss T next (fun q => decide (q < next))) := fun h => by
      simp only [decide_eq_true_eq] at h
      exact poss_of_prio HP.out (fun i hi => ⟨R i, HR.out i hi, h i hi⟩)
    generalize decide (∀ i, i < next → 0 < R i) = t at *
    clear hb2
    go_wp2
    go_ret
    exact ⟨t, F, rfl, HOK.out, HROW.out.of_block (HB2.out.block _ hpl), HB2.out.mono hs0⟩
  · refine (ana_ord b off next cap (some ⟨pb, 0, none⟩) next next T w HC.out hbw HT.out (.inr ⟨pb, 0, F, rfl, rfl, hpl, HI.out, hp⟩)).mono ?_
    rintro e w1 ⟨rfl, hb1⟩
    have HB1 : Hid (Below w.heap.size w w1) := hb1
    clear hb1 hp
    go_wp2
    go_ret
    exact ⟨false, F, rfl, (fun h => by cases h), HROW.out.of_block (HB1.out.block _ hpl), HB1.out.mono hs0⟩

set_option maxRecDepth 100000 in
set_option maxHeartbeats 2000000 in
theorem tries_step {T : TD} {w0 : World} {b off n cap pb d : Nat} (hG : Good T n) (hpb : w0.heap.size ≤ pb) (ih : TriesC T w0 b off n cap pb d) : TriesC T w0 b off n cap pb (d + 1) := by
  intro next F w hn hbel hrow
  have h8 := hG.eight
  have HROW : Hid (w.rowIs pb 3 n (fun q => .int .i64 (F q))) := hrow
  have HBEL : Hid (Below w0.heap.size w0 w) := hbel
  have IH : Hid (TriesC T w0 b off n cap pb d) := ih
  have hne : ((next : Int) == (n : Int)) = false := by simp; omega
  clear hrow hbel ih hG
  go_enter Try.func18, Try.ntmps18
  go_wp2
  go_loopw [10] (fun iv wr => ∃ (k : Nat) (G : Nat → Int), k ≤ n ∧ iv = .int .i64 k ∧ wr.rowIs pb 3 n (fun q => .int .i64 (G q)) ∧ Below w0.heap.size w wr) (fun iv _ => n - (intOf iv).toNat)
  case atStart => exact ⟨0, F, Nat.zero_le _, rfl, HROW.out, Below.refl _ _⟩
  case round =>
    obtain ⟨k, G, hk, rfl, hr, hbl⟩ := hrel
    have HR : Hid (wr.rowIs pb 3 n (fun q => .int .i64 (G q))) := hr
    have HBL : Hid (Below w0.heap.size w wr) := hbl
    clear hr hbl
    by_cases hlt : k < n
    · have y0 : wr.cell? ⟨pb, k, none⟩ = some (.int .i64 (G k)) := HR.out.cell hlt
      have z0 : wr.frozen? ⟨pb, k, none⟩ = false := HR.out.frozen k
      by_cases hc : 0 ≤ G k
      · have bd : decide (0 ≤ G k) = true := by simpa using hc
        go_wp2
        go_roundw
        case rel => exact ⟨k + 1, G, by omega, by go_num, HR.out, HBL.out⟩
        case measure => simp [intOf]; omega
      · have bd : decide (0 ≤ G k) = false := by simpa using hc
        have hse := row_set_int HR.out k (next : Int)
        have hbe : Below w0.heap.size w (wr.setCell ⟨pb, k, none⟩ (.int .i64 (next : Int))) := HBL.out.setCell hpb _
        have hcall := IH.out (next + 1) (updZ G k next) (wr.setCell ⟨pb, k, none⟩ (.int .i64 (next : Int))) (by omega) (HBEL.out.trans hbe) hse
        rw [show ((next + 1 : Nat) : Int) = (next : Int) + 1 by omega] at hcall
        have HCALL : Hid (Calls Try.prog 18 #[.slice (some ⟨b, off, none⟩) n cap, .slice (some ⟨pb, 0, none⟩) n n, .int .i64 ((next : Int) + 1)] (wr.setCell ⟨pb, k, none⟩ (.int .i64 (next : Int))) fun e w' => ∃ (t : Bool) (F' : Nat → Int), e = .returned (.bool t) ∧ (t = true → Poss T n (fun q => decide (q < n))) ∧ w'.rowIs pb 3 n (fun q => .int .i64 (F' q)) ∧ Below w0.heap.size (wr.setCell ⟨pb, k, none⟩ (.int .i64 (next : Int))) w') := hcall
        have HBE : Hid (Below w0.heap.size w (wr.setCell ⟨pb, k, none⟩ (.int .i64 (next : Int)))) := hbe
        clear hcall hse hbe
        go_wp2_with fail
        refine (HCALL.out).mono ?_
        rintro e w1 ⟨t, F', rfl, hok, hr1, hb1⟩
        have HOK : Hid (t = true → Poss T n (fun q => decide (q < n))) := hok
        have HR2 : Hid ((w1.setCell ⟨pb, k, none⟩ (.int .i64 (-1))).rowIs pb 3 n (fun q => .int .i64 (updZ F' k (-1) q))) := row_set_int hr1 k (-1)
        have HB2 : Hid (Below w0.heap.size w (w1.setCell ⟨pb, k, none⟩ (.int .i64 (-1)))) := (HBE.out.trans hb1).setCell hpb _
        have y1 : w1.cell? ⟨pb, k, none⟩ = some (.int .i64 (F' k)) := hr1.cell hlt
        have z1 : w1.frozen? ⟨pb, k, none⟩ = false := hr1.frozen k
        clear hok hr1 hb1 HCALL
        cases t with
        | true =>
          go_wp2
          go_ret
          exact ⟨true, _, rfl, fun _ => HOK.out trivial, HR2.out, HB2.out⟩
        | false =>
          go_wp2
          go_roundw
          case rel => exact ⟨k + 1, _, by omega, by go_num, HR2.out, HB2.out⟩
          case measure => simp [intOf]; omega
    · go_wp2
      go_ret
      exact ⟨false, G, rfl, (fun h => by cases h), HR.out, HBL.out⟩

theorem tries_any {T : TD} {w0 : World} {b off n cap pb : Nat} (hc : chkR T n = (0, 0)) (hb : b < w0.heap.size) (hT : TasksAt w0 b off n T) (hpb : w0.heap.size ≤ pb) : ∀ d, TriesC T w0 b off n cap pb d
  | 0 => tries_end hc hb hT
  | d + 1 => tries_step (good_of_chk hc).1 hpb (tries_any hc hb hT hpb d)

end Go.Proofs.Ytdabcflpcklfiaa
