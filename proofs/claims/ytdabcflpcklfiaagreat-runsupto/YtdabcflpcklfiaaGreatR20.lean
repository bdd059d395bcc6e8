import Derived.Test.YtdabcflpcklfiaaGreatR19
import Derived.Test.YtdabcflpcklfiaaGreatR16
namespace Go.Proofs.YtdabcflpcklfiaaGreat
open Go.RowKit

theorem taskE_zero {p d j : Int} {K N : Nat → Int} {l : Nat} (h : Cad.taskE p d j K N l = 0) : Cad.timesB p d j = true ∧ Cad.progB K N l = true := by
  unfold Cad.taskE at h
  by_cases h1 : Cad.timesB p d j = true
  · rw [if_pos h1] at h
    by_cases h2 : Cad.progB K N l = true
    · exact ⟨h1, h2⟩
    · rw [if_neg h2] at h; omega
  · rw [if_neg h1] at h; omega

theorem chk_zero {E : Nat → Int} {n : Nat} {y : Int} (h : Cad.chk E n = (0, y)) : ∀ i, i < n → E i = 0 := by
  have key : ∀ k, k ≤ n → ∀ i, i < k → E i = 0 := by
    intro k
    induction k with
    | zero => intro _ i hi; omega
    | succ k ih =>
      intro hk i hi
      by_cases e : i = k
      · subst e
        apply Classical.byContradiction
        intro hne
        have := Cad.chk_hit (n := n) (by omega) (ih (by omega)) hne
        rw [this] at h
        exact hne (Prod.mk.inj h).1
      · exact ih (by omega) i (by omega)
  exact key n (Nat.le_refl _)

theorem good_of_chk {T : TD} {n : Nat} {y : Int} (h : chkR T n = (0, y)) : Good T n ∧ y = 0 := by
  unfold chkR at h
  by_cases hn : 1 ≤ n ∧ n ≤ 8
  · rw [if_pos hn] at h
    have hz := chk_zero h
    refine ⟨⟨hn.1, hn.2, fun t ht => (taskE_zero (hz t ht)).2, fun t ht => ?_⟩, ?_⟩
    · have := (taskE_zero (hz t ht)).1
      simp only [Cad.timesB, decide_eq_true_eq] at this
      exact this
    · rw [Cad.chk_ok hz] at h
      exact (Prod.mk.inj h).2.symm
  · rw [if_neg hn] at h
    have := (Prod.mk.inj h).1
    omega

theorem check_all (b off n cap : Nat) (T : TD) (w : World) (x y : Int) (hc : chkR T n = (x, y)) (hm : n ≤ 9223372036854775807) (hb : b < w.heap.size) (hT : TasksAt w b off n T) :
    Calls Tryz.prog 66 #[.slice (some ⟨b, off, none⟩) n cap] w fun e w' => e = .returned (.tuple #[.int .i64 x, .int .i64 y]) ∧ Below w.heap.size w w' := by
  unfold chkR at hc
  by_cases h : 1 ≤ n ∧ n ≤ 8
  · rw [if_pos h] at hc
    refine (check_some b off n cap T w h.1 h.2 hb hT).mono ?_
    rintro e w' ⟨rfl, hb⟩
    exact ⟨by rw [hc], hb⟩
  · rw [if_neg h] at hc
    refine (check_many _ n cap w (by omega) hm).mono ?_
    rintro e w' ⟨rfl, rfl⟩
    cases hc
    exact ⟨rfl, Below.refl _ _⟩

set_option maxHeartbeats 400000 in
theorem order_no (ao : Option Addr) (pl cap n : Nat) (w : World) (hne : pl ≠ n) :
    Calls Tryz.prog 63 #[.slice ao pl cap, .int .i64 n] w fun e w' => e = .returned (.bool false) ∧ w' = w := by
  have hd : ((pl : Int) != (n : Int)) = true := by rw [bne_iff_ne]; omega
  go_enter Tryz.func63, Tryz.ntmps63
  go_wp2
  go_ret
  exact ⟨rfl, rfl⟩

set_option maxHeartbeats 400000 in
theorem order_any (pb po n pc : Nat) (Z : Nat → Int) (t : Bool) (w : World) (hn : n ≤ 8) (hZ : IntsAt w pb po n Z) (ht : t = true ↔ Cad.OrderB Z n) :
    Calls Tryz.prog 63 #[.slice (some ⟨pb, po, none⟩) n pc, .int .i64 n] w fun e w' => e = .returned (.bool t) ∧ w' = w := by
  have HT : Hid _ := ht
  have HZ : Hid _ := hZ
  clear ht hZ
  have hd : ((n : Int) != (n : Int)) = false := by simp
  go_enter Tryz.func63, Tryz.ntmps63
  go_wp2
  go_loop [5] (fun iv => ∃ i : Nat, i ≤ n ∧ iv = .int .i64 i ∧ ∀ j, j < i → ∃ k, k < n ∧ Z k = (j : Int)) (fun iv => n - (intOf iv).toNat)
  case atStart => exact ⟨0, Nat.zero_le _, rfl, fun j hj => by omega⟩
  case round =>
    obtain ⟨i, hi, rfl, hok⟩ := hrel
    have HOK : Hid _ := hok
    clear hok
    by_cases hlt : i < n
    · go_wp2_with fail
      refine (has_any pb po n pc Z i w (by omega) HZ.out).mono ?_
      rintro e w' ⟨rfl, hw⟩
      obtain rfl := hw.symm
      clear hw
      cases hh : Cad.hasB Z n (i : Int)
      · have FIN : Hid (t = false) := by
          show t = false
          have hno : ¬ Cad.OrderB Z n := fun ho => by
            have := ho i hlt
            simp [Cad.hasB] at hh
            obtain ⟨k, hk, e⟩ := this
            exact hh k hk e
          cases t
          · rfl
          · exact absurd (HT.out.1 rfl) hno
        clear hh
        go_wp2
        go_ret
        exact ⟨ret_bool FIN.out.symm, rfl⟩
      · have HHV : Hid (∃ k, k < n ∧ Z k = (i : Int)) := by
          show ∃ k, k < n ∧ Z k = (i : Int)
          simpa [Cad.hasB] using hh
        clear hh
        go_wp2
        go_round
        case rel => exact ⟨i + 1, by omega, by go_num, fun j hj => by
          by_cases e : j = i
          · subst e; exact HHV.out
          · exact HOK.out j (by omega)⟩
        case measure => simp [intOf]; omega
    · obtain rfl : i = n := by omega
      go_wp2
      go_ret
      exact ⟨ret_bool (HT.out.2 HOK.out).symm, rfl⟩

def outOf (R : Nat → Int) (n : Nat) : List Value := (List.range n).map fun i => Value.int .i64 (R i)

theorem outOf_succ (R : Nat → Int) (k : Nat) (r : Int) : outOf R k ++ [Value.int .i64 r] = outOf (fun j => if j = k then r else R j) (k + 1) := by
  unfold outOf
  rw [List.range_succ, List.map_append]
  congr 1
  · apply List.map_congr_left
    intro j hj
    have : j ≠ k := by have := List.mem_range.1 hj; omega
    simp [this]
  · simp

/-- What a task's bound is, by the document's answer. -/
def RefB (T : TD) (Z : Nat → Int) (n i : Nat) (r : Int) : Prop := ∃ s, Cad.IsMax (Cad.SRef T.K T.N T.L Z n i) s ∧ Cad.IsBound (fitF T Z n i s) (T.J i) (T.D i) r

set_option maxRecDepth 100000 in
set_option maxHeartbeats 1000000 in
theorem refana_err (b off n cap : Nat) (pv : Value) (T : TD) (x y : Int) (w : World) (hc : chkR T n = (x, y)) (hx : x ≠ 0) (hm : n ≤ 9223372036854775807) (hb : b < w.heap.size) (hT : TasksAt w b off n T) :
    Calls Tryz.prog 36 #[.slice (some ⟨b, off, none⟩) n cap, pv] w fun e w' => e = .returned (.tuple #[.slice none 0 0, .int .i64 x, .int .i64 y]) ∧ Below w.heap.size w w' := by
  have HT : Hid _ := hT
  have HC : Hid _ := hc
  have hd : (x != 0) = true := by simpa using hx
  clear hT hc hx
  go_enter Tryz.func36, Tryz.ntmps36
  go_wp2_with fail
  refine (ref_all b off n cap T _ x y HC.out hm hb HT.out).mono ?_
  rintro e w1 ⟨rfl, hb1⟩
  go_wp2
  go_ret3
  exact ⟨rfl, hb1⟩

set_option maxRecDepth 100000 in
set_option maxHeartbeats 1000000 in
theorem refana_ord (b off n cap : Nat) (ao : Option Addr) (pl pc : Nat) (T : TD) (w : World) (hc : chkR T n = (0, 0)) (hb : b < w.heap.size) (hT : TasksAt w b off n T)
    (ho : pl ≠ n ∨ ∃ pb po Z, ao = some ⟨pb, po, none⟩ ∧ pl = n ∧ pb < w.heap.size ∧ IntsAt w pb po n Z ∧ ¬ Cad.OrderB Z n) :
    Calls Tryz.prog 36 #[.slice (some ⟨b, off, none⟩) n cap, .slice ao pl pc] w fun e w' => e = .returned (.tuple #[.slice none 0 0, .int .i64 4, .int .i64 0]) ∧ Below w.heap.size w w' := by
  have HT : Hid _ := hT
  have HC : Hid _ := hc
  have HO : Hid _ := ho
  have h8 := (good_of_chk hc).1.eight
  clear hT hc ho
  go_enter Tryz.func36, Tryz.ntmps36
  go_wp2_with fail
  refine (ref_all b off n cap T _ 0 0 HC.out (by omega) hb HT.out).mono ?_
  rintro e w1 ⟨rfl, hb1⟩
  have HB1 : Hid _ := hb1
  clear hb1
  go_wp2_with fail
  have hcall : Calls Tryz.prog 63 #[.slice ao pl pc, .int .i64 n] w1 fun e w' => e = .returned (.bool false) ∧ w' = w1 := by
    rcases HO.out with hne | ⟨pb, po, Z, rfl, rfl, hpb, hZ, hno⟩
    · exact order_no ao pl pc n w1 hne
    · exact order_any pb po _ pc Z false w1 h8 (IntsAt.below hZ hpb HB1.out) (by simp [hno])
  refine hcall.mono ?_
  rintro e w2 ⟨rfl, hw2⟩
  obtain rfl := hw2.symm
  clear hw2
  go_wp2
  go_ret3
  exact ⟨rfl, HB1.out⟩

set_option maxRecDepth 100000 in
set_option maxHeartbeats 1000000 in
theorem refana_ok (b off n cap pb po pc : Nat) (T : TD) (Z : Nat → Int) (w : World) (hc : chkR T n = (0, 0)) (hb : b < w.heap.size) (hpb : pb < w.heap.size) (hT : TasksAt w b off n T) (hZ : IntsAt w pb po n Z) (ho : Cad.OrderB Z n) :
    Calls Tryz.prog 36 #[.slice (some ⟨b, off, none⟩) n cap, .slice (some ⟨pb, po, none⟩) n pc] w fun e w' => ∃ v R, e = .returned (.tuple #[v, .int .i64 0, .int .i64 0]) ∧ w'.ownsRow w.heap.size 3 1 v n (outOf R n) ∧ (∀ i, i < n → RefB T Z n i (R i)) ∧ Below w.heap.size w w' := by
  obtain ⟨i0, hi0, hz0, hz1, hz2⟩ := info_parts Tryz.info3
  have HT : Hid _ := hT
  have HZ : Hid _ := hZ
  have HC : Hid _ := hc
  have HO : Hid _ := ho
  have hg := (good_of_chk hc).1
  have h8 := hg.eight
  have HG : Hid _ := hg
  have HZ0 : Hid (∀ t, t < n → 0 ≤ Z t) := fun t ht => (((Cad.order_iff Z n).1 ho).1 t ht).1
  clear hT hc ho hZ hg
  go_enter Tryz.func36, Tryz.ntmps36
  go_wp2_with fail
  refine (ref_all b off n cap T _ 0 0 HC.out (by omega) hb HT.out).mono ?_
  rintro e w1 ⟨rfl, hb1⟩
  have HB1 : Hid _ := hb1
  clear hb1
  go_wp2_with fail
  refine (order_any pb po n pc Z true _ h8 ?_ ?_).mono ?_
  · exact IntsAt.below HZ.out hpb HB1.out
  · exact ⟨fun _ => HO.out, fun _ => rfl⟩
  rintro e w2 ⟨rfl, hw2⟩
  obtain rfl := hw2.symm
  clear hw2
  go_wp2_with fail
  go_loopw [10, 11] (fun v iv wr => ∃ (i : Nat) (R : Nat → Int), i ≤ n ∧ iv = .int .i64 i ∧ wr.ownsRow w.heap.size 3 1 v i (outOf R i) ∧ (∀ j, j < i → RefB T Z n j (R j)) ∧ Below w.heap.size w wr) (fun _ iv _ => n - (intOf iv).toNat)
  case atStart => exact ⟨0, fun _ => 0, Nat.zero_le _, rfl, World.ownsRow_nil _ _ _ _, fun j hj => by omega, HB1.out⟩
  case round =>
    obtain ⟨i, R, hi, rfl, hown, hR, hbel⟩ := hrel
    have HR : Hid _ := hR
    clear hR
    by_cases hlt : i < n
    · have hsz := hbel.size
      have HBE : Hid _ := hbel
      clear hbel
      have HOW : Hid _ := hown
      clear hown
      go_wp2_with fail
      refine (refbound_any b off n cap pb po pc i T Z _ HG.out hlt (by omega) (by omega) (TasksAt.below HT.out hb HBE.out) (IntsAt.below HZ.out hpb HBE.out) HZ0.out).mono ?_
      rintro e w3 ⟨s, r, rfl, hmax, hbd, hb3⟩
      have HRB : Hid (RefB T Z n i r) := ⟨s, hmax, hbd⟩
      clear hmax hbd
      have hown3 := own_below HOW.out hb3
      have hbel3 : Below w.heap.size w w3 := HBE.out.trans (hb3.mono hsz)
      have hsz3 := hbel3.size
      go_wp2_with (at_builtin; refine wpList_append_own _ rfl _ _ 23 rfl w.heap.size 3 i0 (.int .i64 0) 1 8 Tryz.underlying23 hi0 hz0 hz1 hz2 rfl (by decide) _ _ _ rfl (hown3.alloc _) ⟨w3.heap.size, 0, none⟩ 1 1 [.int .i64 r] rfl rfl ?c1 ?c2 ?c3 ?c4 ?c5 ?_)
      case c1 => exact cell_one_at _ _ rfl _ _
      case c2 => exact one_oneCell rfl
      case c3 => unfold maxLen; omega
      case c4 => omega
      case c5 => simp; omega
      · intro v5 w5 hown5 hg5 _
        have hb5 : Below w.heap.size w w5 := (hbel3.alloc hbel3.size _).grown hg5 (by simp; omega) (fun k hk => (hown3.lt k hk).1)
        rw [outOf_succ] at hown5
        have HO5 : Hid _ := hown5
        clear hown5 hg5 hown3
        go_wp2
        go_roundw
        case rel => exact ⟨i + 1, _, by omega, by go_num, HO5.out, fun j hj => by
          by_cases e : j = i
          · subst e; simp only [if_true]; exact HRB.out
          · simp only [e, if_false]; exact HR.out j (by omega), hb5⟩
        case measure => simp [intOf]; omega
    · obtain rfl : i = n := by omega
      go_wp2
      go_ret3
      exact ⟨_, R, rfl, hown, HR.out, hbel⟩
end Go.Proofs.YtdabcflpcklfiaaGreat

namespace Go.Proofs.YtdabcflpcklfiaaGreat
open Go.RowKit

end Go.Proofs.YtdabcflpcklfiaaGreat
