import Derived.Test.YtdabcflpcklfiaaGreatA17
import Derived.Test.YtdabcflpcklfiaaGreatA15
namespace Go.Proofs.YtdabcflpcklfiaaGreat
open Go.RowKit

theorem taskE_zero {p d j : Int} {K N : Nat → Int} {l : Nat} (h : Cad.taskE p d j K N l = 0) : Cad.timesB p d j = true ∧ Cad.progB K N l = true := by
  unfold Cad.taskE at h
  by_cases h1 : Cad.timesB p d j = true
  · rw [if_pos h1] at h
    by_cases h2 : Cad.progB K N l = true
    · exact ⟨h1, h2⟩
    · rw [if_neg h2] at h; omega
  · rw [if_neg h1] at h; omega

theorem chk_zero {E : Nat → Int} {n : Nat} {y : Int} (h : Cad.chk E n = (0, y)) : ∀ i, i < n → E i = 0 := by
  have key : ∀ k, k ≤ n → ∀ i, i < k → E i = 0 := by
    intro k
    induction k with
    | zero => intro _ i hi; omega
    | succ k ih =>
      intro hk i hi
      by_cases e : i = k
      · subst e
        apply Classical.byContradiction
        intro hne
        have := Cad.chk_hit (n := n) (by omega) (ih (by omega)) hne
        rw [this] at h
        exact hne (Prod.mk.inj h).1
      · exact ih (by omega) i (by omega)
  exact key n (Nat.le_refl _)

theorem good_of_chk {T : TD} {n : Nat} {y : Int} (h : chkR T n = (0, y)) : Good T n ∧ y = 0 := by
  unfold chkR at h
  by_cases hn : 1 ≤ n ∧ n ≤ 8
  · rw [if_pos hn] at h
    have hz := chk_zero h
    refine ⟨⟨hn.1, hn.2, fun t ht => (taskE_zero (hz t ht)).2, fun t ht => ?_⟩, ?_⟩
    · have := (taskE_zero (hz t ht)).1
      simp only [Cad.timesB, decide_eq_true_eq] at this
      exact this
    · rw [Cad.chk_ok hz] at h
      exact (Prod.mk.inj h).2.symm
  · rw [if_neg hn] at h
    have := (Prod.mk.inj h).1
    omega

theorem check_all (b off n cap : Nat) (T : TD) (w : World) (x y : Int) (hc : chkR T n = (x, y)) (hm : n ≤ 9223372036854775807) (hb : b < w.heap.size) (hT : TasksAt w b off n T) :
    Calls Tryz.prog 66 #[.slice (some ⟨b, off, none⟩) n cap] w fun e w' => e = .returned (.tuple #[.int .i64 x, .int .i64 y]) ∧ Below w.heap.size w w' := by
  unfold chkR at hc
  by_cases h : 1 ≤ n ∧ n ≤ 8
  · rw [if_pos h] at hc
    refine (check_some b off n cap T w h.1 h.2 hb hT).mono ?_
    rintro e w' ⟨rfl, hb⟩
    exact ⟨by rw [hc], hb⟩
  · rw [if_neg h] at hc
    refine (check_many _ n cap w (by omega) hm).mono ?_
    rintro e w' ⟨rfl, rfl⟩
    cases hc
    exact ⟨rfl, Below.refl _ _⟩

set_option maxHeartbeats 400000 in
theorem order_no (ao : Option Addr) (pl cap n : Nat) (w : World) (hne : pl ≠ n) :
    Calls Tryz.prog 63 #[.slice ao pl cap, .int .i64 n] w fun e w' => e = .returned (.bool false) ∧ w' = w := by
  have hd : ((pl : Int) != (n : Int)) = true := by rw [bne_iff_ne]; omega
  go_enter Tryz.func63, Tryz.ntmps63
  go_wp2
  go_ret
  exact ⟨rfl, rfl⟩

set_option maxHeartbeats 400000 in
theorem order_any (pb po n pc : Nat) (Z : Nat → Int) (t : Bool) (w : World) (hn : n ≤ 8) (hZ : IntsAt w pb po n Z) (ht : t = true ↔ Cad.OrderB Z n) :
    Calls Tryz.prog 63 #[.slice (some ⟨pb, po, none⟩) n pc, .int .i64 n] w fun e w' => e = .returned (.bool t) ∧ w' = w := by
  have HT : Hid _ := ht
  have HZ : Hid _ := hZ
  clear ht hZ
  have hd : ((n : Int) != (n : Int)) = false := by simp
  go_enter Tryz.func63, Tryz.ntmps63
  go_wp2
  go_loop [5] (fun iv => ∃ i : Nat, i ≤ n ∧ iv = .int .i64 i ∧ ∀ j, j < i → ∃ k, k < n ∧ Z k = (j : Int)) (fun iv => n - (intOf iv).toNat)
  case atStart => exact ⟨0, Nat.zero_le _, rfl, fun j hj => by omega⟩
  case round =>
    obtain ⟨i, hi, rfl, hok⟩ := hrel
    have HOK : Hid _ := hok
    clear hok
    by_cases hlt : i < n
    · go_wp2_with fail
      refine (has_any pb po n pc Z i w (by omega) HZ.out).mono ?_
      rintro e w' ⟨rfl, hw⟩
      obtain rfl := hw.symm
      clear hw
      cases hh : Cad.hasB Z n (i : Int)
      · have FIN : Hid (t = false) := by
          show t = false
          have hno : ¬ Cad.OrderB Z n := fun ho => by
            have := ho i hlt
            simp [Cad.hasB] at hh
            obtain ⟨k, hk, e⟩ := this
            exact hh k hk e
          cases t
          · rfl
          · exact absurd (HT.out.1 rfl) hno
        clear hh
        go_wp2
        go_ret
        exact ⟨ret_bool FIN.out.symm, rfl⟩
      · have HHV : Hid (∃ k, k < n ∧ Z k = (i : Int)) := by
          show ∃ k, k < n ∧ Z k = (i : Int)
          simpa [Cad.hasB] using hh
        clear hh
        go_wp2
        go_round
        case rel => exact ⟨i + 1, by omega, by go_num, fun j hj => by
          by_cases e : j = i
          · subst e; exact HHV.out
          · exact HOK.out j (by omega)⟩
        case measure => simp [intOf]; omega
    · obtain rfl : i = n := by omega
      go_wp2
      go_ret
      exact ⟨ret_bool (HT.out.2 HOK.out).symm, rfl⟩

def outOf (R : Nat → Int) (n : Nat) : List Value := (List.range n).map fun i => Value.int .i64 (R i)

theorem outOf_succ (R : Nat → Int) (k : Nat) (r : Int) : outOf R k ++ [Value.int .i64 r] = outOf (fun j => if j = k then r else R j) (k + 1) := by
  unfold outOf
  rw [List.range_succ, List.map_append]
  congr 1
  · apply List.map_congr_left
    intro j hj
    have : j ≠ k := by have := List.mem_range.1 hj; omega
    simp [this]
  · simp

/-- What a task's bound is, by the document's answer. -/
def RefB (T : TD) (Z : Nat → Int) (n i : Nat) (r : Int) : Prop := ∃ s, Cad.IsMax (Cad.SRef T.K T.N T.L Z n i) s ∧ Cad.IsBound (fitF T Z n i s) (T.J i) (T.D i) r

set_option maxRecDepth 100000 in
set_option maxHeartbeats 1000000 in
theorem refana_err (b off n cap : Nat) (pv : Value) (T : TD) (x y : Int) (w : World) (hc : chkR T n = (x, y)) (hx : x ≠ 0) (hm : n ≤ 9223372036854775807) (hb : b < w.heap.size) (hT : TasksAt w b off n T) :
    Calls Tryz.prog 36 #[.slice (some ⟨b, off, none⟩) n cap, pv] w fun e w' => e = .returned (.tuple #[.slice none 0 0, .int .i64 x, .int .i64 y]) ∧ Below w.heap.size w w' := by
  have HT : Hid _ := hT
  have HC : Hid _ := hc
  have hd : (x != 0) = true := by simpa using hx
  clear hT hc hx
  go_enter Tryz.func36, Tryz.ntmps36
  go_wp2_with fail
  refine (ref_all b off n cap T _ x y HC.out hm hb HT.out).mono ?_
  rintro e w1 ⟨rfl, hb1⟩
  go_wp2
  go_ret3
  exact ⟨rfl, hb1⟩

set_option maxRecDepth 100000 in
set_option maxHeartbeats 1000000 in
theorem refana_ord (b off n cap : Nat) (ao : Option Addr) (pl pc : Nat) (T : TD) (w : World) (hc : chkR T n = (0, 0)) (hb : b < w.heap.size) (hT : TasksAt w b off n T)
    (ho : pl ≠ n ∨ ∃ pb po Z, ao = some ⟨pb, po, none⟩ ∧ pl = n ∧ pb < w.heap.size ∧ IntsAt w pb po n Z ∧ ¬ Cad.OrderB Z n) :
    Calls Tryz.prog 36 #[.slice (some ⟨b, off, none⟩) n cap, .slice ao pl pc] w fun e w' => e = .returned (.tuple #[.slice none 0 0, .int .i64 4, .int .i64 0]) ∧ Below w.heap.size w w' := by
  have HT : Hid _ := hT
  have HC : Hid _ := hc
  have HO : Hid _ := ho
  have h8 := (good_of_chk hc).1.eight
  clear hT hc ho
  go_enter Tryz.func36, Tryz.ntmps36
  go_wp2_with fail
  refine (ref_all b off n cap T _ 0 0 HC.out (by omega) hb HT.out).mono ?_
  rintro e w1 ⟨rfl, hb1⟩
  have HB1 : Hid _ := hb1
  clear hb1
  go_wp2_with fail
  have hcall : Calls Tryz.prog 63 #[.slice ao pl pc, .int .i64 n] w1 fun e w' => e = .returned (.bool false) ∧ w' = w1 := by
    rcases HO.out with hne | ⟨pb, po, Z, rfl, rfl, hpb, hZ, hno⟩
    · exact order_no ao pl pc n w1 hne
    · exact order_any pb po _ pc Z false w1 h8 (IntsAt.below hZ hpb HB1.out) (by simp [hno])
  refine hcall.mono ?_
  rintro e w2 ⟨rfl, hw2⟩
  obtain rfl := hw2.symm
  clear hw2
  go_wp2
  go_ret3
  exact ⟨rfl, HB1.out⟩

set_option maxRecDepth 100000 in
set_option maxHeartbeats 1000000 in
theorem refana_ok (b off n cap pb po pc : Nat) (T : TD) (Z : Nat → Int) (w : World) (hc : chkR T n = (0, 0)) (hb : b < w.heap.size) (hpb : pb < w.heap.size) (hT : TasksAt w b off n T) (hZ : IntsAt w pb po n Z) (ho : Cad.OrderB Z n) :
    Calls Tryz.prog 36 #[.slice (some ⟨b, off, none⟩) n cap, .slice (some ⟨pb, po, none⟩) n pc] w fun e w' => ∃ v R, e = .returned (.tuple #[v, .int .i64 0, .int .i64 0]) ∧ w'.ownsRow w.heap.size 3 1 v n (outOf R n) ∧ (∀ i, i < n → RefB T Z n i (R i)) ∧ Below w.heap.size w w' := by
  obtain ⟨i0, hi0, hz0, hz1, hz2⟩ := info_parts Tryz.info3
  have HT : Hid _ := hT
  have HZ : Hid _ := hZ
  have HC : Hid _ := hc
  have HO : Hid _ := ho
  have hg := (good_of_chk hc).1
  have h8 := hg.eight
  have HG : Hid _ := hg
  have HZ0 : Hid (∀ t, t < n → 0 ≤ Z t) := fun t ht => (((Cad.order_iff Z n).1 ho).1 t ht).1
  clear hT hc ho hZ hg
  go_enter Tryz.func36, Tryz.ntmps36
  go_wp2_with fail
  refine (ref_all b off n cap T _ 0 0 HC.out (by omega) hb HT.out).mono ?_
  rintro e w1 ⟨rfl, hb1⟩
  have HB1 : Hid _ := hb1
  clear hb1
  go_wp2_with fail
  refine (order_any pb po n pc Z true _ h8 ?_ ?_).mono ?_
  · exact IntsAt.below HZ.out hpb HB1.out
  · exact ⟨fun _ => HO.out, fun _ => rfl⟩
  rintro e w2 ⟨rfl, hw2⟩
  obtain rfl := hw2.symm
  clear hw2
  go_wp2_with fail
  go_loopw [10, 11] (fun v iv wr => ∃ (i : Nat) (R : Nat → Int), i ≤ n ∧ iv = .int .i64 i ∧ wr.ownsRow w.heap.size 3 1 v i (outOf R i) ∧ (∀ j, j < i → RefB T Z n j (R j)) ∧ Below w.heap.size w wr) (fun _ iv _ => n - (intOf iv).toNat)
  case atStart => exact ⟨0, fun _ => 0, Nat.zero_le _, rfl, World.ownsRow_nil _ _ _ _, fun j hj => by omega, HB1.out⟩
  case round =>
    obtain ⟨i, R, hi, rfl, hown, hR, hbel⟩ := hrel
    have HR : Hid _ := hR
    clear hR
    by_cases hlt : i < n
    · have hsz := hbel.size
      have HBE : Hid _ := hbel
      clear hbel
      have HOW : Hid _ := hown
      clear hown
      go_wp2_with fail
      refine (refbound_any b off n cap pb po pc i T Z _ HG.out hlt (by omega) (by omega) (TasksAt.below HT.out hb HBE.out) (IntsAt.below HZ.out hpb HBE.out) HZ0.out).mono ?_
      rintro e w3 ⟨s, r, rfl, hmax, hbd, hb3⟩
      have HRB : Hid (RefB T Z n i r) := ⟨s, hmax, hbd⟩
      clear hmax hbd
      have hown3 := own_below HOW.out hb3
      have hbel3 : Below w.heap.size w w3 := HBE.out.trans (hb3.mono hsz)
      have hsz3 := hbel3.size
      go_wp2_with (at_builtin; refine wpList_append_own _ rfl _ _ 23 rfl w.heap.size 3 i0 (.int .i64 0) 1 8 Tryz.underlying23 hi0 hz0 hz1 hz2 rfl (by decide) _ _ _ rfl (hown3.alloc _) ⟨w3.heap.size, 0, none⟩ 1 1 [.int .i64 r] rfl rfl ?c1 ?c2 ?c3 ?c4 ?c5 ?_)
      case c1 => exact cell_one_at _ _ rfl _ _
      case c2 => exact one_oneCell rfl
      case c3 => unfold maxLen; omega
      case c4 => omega
      case c5 => simp; omega
      · intro v5 w5 hown5 hg5 _
        have hb5 : Below w.heap.size w w5 := (hbel3.alloc hbel3.size _).grown hg5 (by simp; omega) (fun k hk => (hown3.lt k hk).1)
        rw [outOf_succ] at hown5
        have HO5 : Hid _ := hown5
        clear hown5 hg5 hown3
        go_wp2
        go_roundw
        case rel => exact ⟨i + 1, _, by omega, by go_num, HO5.out, fun j hj => by
          by_cases e : j = i
          · subst e; simp only [if_true]; exact HRB.out
          · simp only [e, if_false]; exact HR.out j (by omega), hb5⟩
        case measure => simp [intOf]; omega
    · obtain rfl : i = n := by omega
      go_wp2
      go_ret3
      exact ⟨_, R, rfl, hown, HR.out, hbel⟩
end Go.Proofs.YtdabcflpcklfiaaGreat

namespace Go.Proofs.YtdabcflpcklfiaaGreat
open Go.RowKit

def TD.lon (T : TD) (j r : Nat) : Int := Cad.lonTo (T.K j) (T.N j) (r : Int) (T.L j)

/-- The cells of a system, as the program keeps it. -/
def SysAt (w : World) (g n : Nat) (T : TD) : Prop := ∀ i, i < n →
  w.cell? ⟨g, i * 12, none⟩ = some (.int .i64 (T.P i)) ∧ w.cell? ⟨g, i * 12 + 1, none⟩ = some (.int .i64 (T.D i)) ∧ w.cell? ⟨g, i * 12 + 2, none⟩ = some (.int .i64 (T.J i)) ∧ w.cell? ⟨g, i * 12 + 3, none⟩ = some (.int .i64 (T.dm i)) ∧
  w.cell? ⟨g, i * 12 + 4, none⟩ = some (.int .i64 (T.lon i 0)) ∧ w.cell? ⟨g, i * 12 + 5, none⟩ = some (.int .i64 (T.lon i 1)) ∧ w.cell? ⟨g, i * 12 + 6, none⟩ = some (.int .i64 (T.lon i 2)) ∧ w.cell? ⟨g, i * 12 + 7, none⟩ = some (.int .i64 (T.lon i 3)) ∧
  w.cell? ⟨g, i * 12 + 8, none⟩ = some (.int .i64 (T.lon i 4)) ∧ w.cell? ⟨g, i * 12 + 9, none⟩ = some (.int .i64 (T.lon i 5)) ∧ w.cell? ⟨g, i * 12 + 10, none⟩ = some (.int .i64 (T.lon i 6)) ∧ w.cell? ⟨g, i * 12 + 11, none⟩ = some (.int .i64 (T.lon i 7))

theorem SysAt.below {w w' : World} {g n B : Nat} {T : TD} (h : SysAt w g n T) (hg : g < B) (hbel : Below B w w') : SysAt w' g n T := fun i hi => by
  have c := fun q => hbel.cell (p := ⟨g, q, none⟩) (by exact hg)
  rw [c, c, c, c, c, c, c, c, c, c, c, c]
  exact h i hi

/-- A set of tasks, as a value. -/
def setV (Hs : Nat → Bool) : Value := .agg #[.bool (Hs 0), .bool (Hs 1), .bool (Hs 2), .bool (Hs 3), .bool (Hs 4), .bool (Hs 5), .bool (Hs 6), .bool (Hs 7)]

theorem set_row (w : World) (Hs : Nat → Bool) : (w.alloc (.cells #[.bool (Hs 0), .bool (Hs 1), .bool (Hs 2), .bool (Hs 3), .bool (Hs 4), .bool (Hs 5), .bool (Hs 6), .bool (Hs 7)] 128)).rowIs w.heap.size 128 8 (fun q => .bool (Hs q)) := by
  refine World.rowIs_alloc w #[.bool (Hs 0), .bool (Hs 1), .bool (Hs 2), .bool (Hs 3), .bool (Hs 4), .bool (Hs 5), .bool (Hs 6), .bool (Hs 7)] 128 _ (fun i hi => ?_)
  have h : i < 8 := hi
  match i, h with
  | 0, _ => rfl
  | 1, _ => rfl
  | 2, _ => rfl
  | 3, _ => rfl
  | 4, _ => rfl
  | 5, _ => rfl
  | 6, _ => rfl
  | 7, _ => rfl

set_option maxHeartbeats 400000 in
theorem rounded_any (a p : Int) (w : World) (h1 : 0 ≤ a) (h2 : a ≤ 1000000) (h3 : 1 ≤ p) (h4 : p ≤ 1000000) :
    Calls Tryz.prog 122 #[.int .i64 a, .int .i64 p] w fun e w' => e = .returned (.int .i64 (Cad.ceilD a p)) ∧ w' = w := by
  have hq0 : 0 ≤ (a + p - 1) / p := Int.ediv_nonneg (by omega) (by omega)
  have hq1 : (a + p - 1) / p ≤ a + p - 1 := Int.ediv_le_self _ (by omega)
  go_enter Tryz.func122, Tryz.ntmps122
  go_wp2
  go_ret
  exact ⟨rfl, rfl⟩

theorem prof_getL (T : TD) (i : Nat) {r : Nat} (hr : r < 8) : ([.int .i64 (T.P i), .int .i64 (T.D i), .int .i64 (T.J i), .int .i64 (T.dm i), .int .i64 (T.lon i 0), .int .i64 (T.lon i 1), .int .i64 (T.lon i 2), .int .i64 (T.lon i 3), .int .i64 (T.lon i 4), .int .i64 (T.lon i 5), .int .i64 (T.lon i 6), .int .i64 (T.lon i 7)] : List Value)[4 + r]? = some (.int .i64 (T.lon i r)) := by
  match r, hr with
  | 0, _ => rfl
  | 1, _ => rfl
  | 2, _ => rfl
  | 3, _ => rfl
  | 4, _ => rfl
  | 5, _ => rfl
  | 6, _ => rfl
  | 7, _ => rfl
theorem prof_getA (T : TD) (i : Nat) {r : Nat} (hr : r < 8) : (#[.int .i64 (T.P i), .int .i64 (T.D i), .int .i64 (T.J i), .int .i64 (T.dm i), .int .i64 (T.lon i 0), .int .i64 (T.lon i 1), .int .i64 (T.lon i 2), .int .i64 (T.lon i 3), .int .i64 (T.lon i 4), .int .i64 (T.lon i 5), .int .i64 (T.lon i 6), .int .i64 (T.lon i 7)] : Array Value)[4 + r]? = some (.int .i64 (T.lon i r)) := by
  match r, hr with
  | 0, _ => rfl
  | 1, _ => rfl
  | 2, _ => rfl
  | 3, _ => rfl
  | 4, _ => rfl
  | 5, _ => rfl
  | 6, _ => rfl
  | 7, _ => rfl

/-- Does a task of the set lock the resource? -/
def LockedBy (T : TD) (Hs : Nat → Bool) (r n : Nat) : Prop := ∃ t, t < n ∧ Hs t = true ∧ 0 < T.lon t r

set_option maxRecDepth 100000 in
set_option maxHeartbeats 2000000 in
theorem locked_any (g n cap r : Nat) (T : TD) (Hs : Nat → Bool) (t : Bool) (w : World) (hn : n ≤ 8) (hr : r < 8) (hg : g < w.heap.size) (hS : SysAt w g n T) (ht : t = true ↔ LockedBy T Hs r n) :
    Calls Tryz.prog 121 #[.slice (some ⟨g, 0, none⟩) n cap, .int .i64 r, setV Hs] w fun e w' => e = .returned (.bool t) ∧ Below w.heap.size w w' := by
  have HS : Hid _ := hS
  have HT : Hid _ := ht
  have hset := set_row w Hs
  have hba := below_alloc1 w (.cells #[.bool (Hs 0), .bool (Hs 1), .bool (Hs 2), .bool (Hs 3), .bool (Hs 4), .bool (Hs 5), .bool (Hs 6), .bool (Hs 7)] 128)
  have hsz0 : w.heap.size < (w.alloc (.cells #[.bool (Hs 0), .bool (Hs 1), .bool (Hs 2), .bool (Hs 3), .bool (Hs 4), .bool (Hs 5), .bool (Hs 6), .bool (Hs 7)] 128)).heap.size := hset.lt
  clear hS ht
  unfold setV
  go_enter Tryz.func121, Tryz.ntmps121
  go_wp2
  generalize (w.alloc (.cells #[.bool (Hs 0), .bool (Hs 1), .bool (Hs 2), .bool (Hs 3), .bool (Hs 4), .bool (Hs 5), .bool (Hs 6), .bool (Hs 7)] 128)) = W at *
  go_loopw [11] (fun iv wr => ∃ i : Nat, i ≤ n ∧ iv = .int .i64 i ∧ (∀ t, t < i → ¬ (Hs t = true ∧ 0 < T.lon t r)) ∧ Below (w.heap.size + 1) W wr) (fun iv _ => n - (intOf iv).toNat)
  case atStart => exact ⟨0, Nat.zero_le _, rfl, fun t ht => by omega, Below.refl _ _⟩
  case round =>
    obtain ⟨i, hi, rfl, hno, hbel⟩ := hrel
    have HNO : Hid _ := hno
    clear hno
    have hszw := hbel.size
    have HB0 : Hid (Below w.heap.size w wr) := hba.trans (hbel.mono (by omega))
    by_cases hlt : i < n
    · obtain ⟨c0, c1, c2, c3, c4, c5, c6, c7, c8, c9, c10, c11⟩ := SysAt.below HS.out hg HB0.out i hlt
      have hb : wr.cell? ⟨w.heap.size, i, none⟩ = some (.bool (Hs i)) := (hbel.cell (by simp)).trans (hset.cell (by omega))
      have hgw : g < wr.heap.size := by omega
      have hww : w.heap.size < wr.heap.size := by omega
      have HBE : ∀ o, Below (w.heap.size + 1) W (wr.alloc o) := fun o => hbel.alloc (by omega) o
      have hgL := prof_getL T i hr
      have hgA := prof_getA T i hr
      cases hh : Hs i
      · have HN2 : Hid (¬ (Hs i = true ∧ 0 < T.lon i r)) := by show ¬ _; simp [hh]
        rw [hh] at hb
        clear hh
        go_wp2
        go_roundw
        case rel => exact ⟨i + 1, by omega, by go_num, fun t ht => by
          by_cases e : t = i
          · subst e; exact HN2.out
          · exact HNO.out t (by omega), HBE _⟩
        case measure => simp [intOf]; omega
      · rw [hh] at hb
        have HHH : Hid _ := hh
        clear hh
        by_cases hp : 0 < T.lon i r
        · have FIN : Hid (t = true) := HT.out.2 ⟨i, hlt, HHH.out, hp⟩
          go_wp2
          go_ret
          exact ⟨ret_bool FIN.out.symm, HB0.out.alloc HB0.out.size _⟩
        · have HN2 : Hid (¬ (Hs i = true ∧ 0 < T.lon i r)) := fun e => hp e.2
          go_wp2
          go_roundw
          case rel => exact ⟨i + 1, by omega, by go_num, fun t ht => by
            by_cases e : t = i
            · subst e; exact HN2.out
            · exact HNO.out t (by omega), HBE _⟩
          case measure => simp [intOf]; omega
    · obtain rfl : i = n := by omega
      have FIN : Hid (t = false) := by
        show t = false
        cases t
        · rfl
        · obtain ⟨q, hq, e1, e2⟩ := HT.out.1 rfl
          exact absurd ⟨e1, e2⟩ (HNO.out q hq)
      go_wp2
      go_ret
      exact ⟨ret_bool FIN.out.symm, HB0.out⟩
end Go.Proofs.YtdabcflpcklfiaaGreat
