import Derived.Test.YtdabcflpcklfiaaGreatA54
import Derived.Test.YtdabcflpcklfiaaGreatA52
import Derived.Test.YtdabcflpcklfiaaGreatA51
import Derived.Test.YtdabcflpcklfiaaGreatA29
import Derived.Shelf.SlSortCmp.NoneTotal
import Derived.Ground.SlsfProg
/- Assign, and the law Found. -/
namespace Go.Proofs.YtdabcflpcklfiaaGreat
open Go.RowKit

set_option maxRecDepth 100000 in
set_option maxHeartbeats 1000000 in
theorem assign_err (so : Option Addr) (n cap : Nat) (x y : Int) (w : World) (hx : x ≠ 0) (hC : Calls Tryz.prog 66 #[.slice so n cap] w fun e w' => e = .returned (.tuple #[.int .i64 x, .int .i64 y]) ∧ Below w.heap.size w w') :
    Calls Tryz.prog 39 #[.slice so n cap] w fun e w' => e = .returned (.tuple #[.slice none 0 0, .int .i64 x, .int .i64 y]) ∧ Below w.heap.size w w' := by
  have HC : Hid (Calls Tryz.prog 66 #[.slice so n cap] w fun e w' => e = .returned (.tuple #[.int .i64 x, .int .i64 y]) ∧ Below w.heap.size w w') := hC
  have hd : (x != 0) = true := by simpa using hx
  clear hC hx
  go_enter Tryz.func39, Tryz.ntmps39
  go_wp2_with fail
  refine (HC.out).mono ?_
  rintro e w1 ⟨rfl, hb1⟩
  have HB1 : Hid (Below w.heap.size w w1) := hb1
  clear hb1
  go_wp2
  go_ret3
  exact ⟨rfl, HB1.out⟩

theorem nilI (w : World) (a : Option Addr) (n c : Nat) : (binOp .eql 23 (.slice a n c) (.slice none 0 0)).run Tryz.prog w = .ok (.bool a.isNone) w := Lib.run_eql_slice_nil w 23 3 a n c 0 0 Tryz.underlying23

set_option maxRecDepth 100000 in
set_option maxHeartbeats 1000000 in
theorem assign_ok (b off n cap : Nat) (T : TD) (w : World) (hc : chkR T n = (0, 0)) (hb : b < w.heap.size) (hT : TasksAt w b off n T) :
    Calls Tryz.prog 39 #[.slice (some ⟨b, off, none⟩) n cap] w fun e w' => (e = .returned (.tuple #[.slice none 0 0, .int .i64 10, .int .i64 0]) ∧ ¬ Poss T n (fun q => decide (q < n)) ∨ ∃ pb Z, e = .returned (.tuple #[.slice (some ⟨pb, 0, none⟩) n n, .int .i64 0, .int .i64 0]) ∧ w.heap.size ≤ pb ∧ w'.rowIs pb 3 n (fun q => .int .i64 (Z q)) ∧ Cad.PrioB Z n ∧ (∀ i, i < n → Has T n (abv Z n i) i) ∧ (∀ i, i < n → Low T n (fun q => if q < n then decide (Z i ≤ Z q) else false) i)) ∧ Below w.heap.size w w' := by
  have hG := (good_of_chk hc).1
  have h8 := hG.eight
  have HG : Hid (Good T n) := hG
  have HC : Hid (chkR T n = (0, 0)) := hc
  have HT : Hid (TasksAt w b off n T) := hT
  clear hT hc hG
  have hnil := nilI
  go_enter Tryz.func39, Tryz.ntmps39
  go_wp2_with fail
  refine (check_all b off n cap T w 0 0 HC.out (by omega) hb HT.out).mono ?_
  rintro e w1 ⟨rfl, hb1⟩
  have HB1 : Hid (Below w.heap.size w w1) := hb1
  have hs1 := hb1.size
  clear hb1
  go_wp2_with fail
  refine (of_any b off n cap T w1 HG.out (by omega) (TasksAt.below HT.out hb HB1.out)).mono ?_
  rintro e w2 ⟨rfl, hsys, hlt, hb2⟩
  have HSYS : Hid (SysAt w2 w1.heap.size n T) := hsys
  have HB2 : Hid (Below w.heap.size w w2) := HB1.out.trans (hb2.mono hs1)
  have hs2 := HB2.out.size
  clear hsys hb2
  go_wp2_with fail
  refine (find_any w1.heap.size n T w2 HG.out hlt HSYS.out).mono ?_
  rintro e w3 ⟨⟨rfl, hno⟩ | ⟨pb, Z, rfl, hpb, hrow, hpr, hhas, hlow⟩, hb3⟩
  · have HNO : Hid (¬ Poss T n (fun q => decide (q < n))) := hno
    have HB3 : Hid (Below w.heap.size w w3) := HB2.out.trans (hb3.mono hs2)
    clear hno hb3
    go_wp2
    go_ret3
    exact ⟨.inl ⟨rfl, HNO.out⟩, HB3.out⟩
  · have HROW : Hid (w3.rowIs pb 3 n (fun q => .int .i64 (Z q))) := hrow
    have HPR : Hid (Cad.PrioB Z n) := hpr
    have HHAS : Hid (∀ i, i < n → Has T n (abv Z n i) i) := hhas
    have HLOW : Hid (∀ i, i < n → Low T n (fun q => if q < n then decide (Z i ≤ Z q) else false) i) := hlow
    have HB3 : Hid (Below w.heap.size w w3) := HB2.out.trans (hb3.mono hs2)
    clear hrow hpr hhas hlow hb3
    go_wp2
    go_ret3
    exact ⟨.inr ⟨pb, Z, rfl, by omega, HROW.out, HPR.out, HHAS.out, HLOW.out⟩, HB3.out⟩

theorem check_errs (so : Option Addr) (n cap : Nat) (T : TD) (w : World) (hm : n ≤ 9223372036854775807) (hT : 1 ≤ n → ∃ b off, so = some ⟨b, off, none⟩ ∧ b < w.heap.size ∧ TasksAt w b off n T) (x y : Int) (hc : chkR T n = (x, y)) :
    ∀ w', Below w.heap.size w w' → Calls Tryz.prog 66 #[.slice so n cap] w' fun e w'' => e = .returned (.tuple #[.int .i64 x, .int .i64 y]) ∧ Below w'.heap.size w' w'' := by
  intro w' hb'
  by_cases h1 : 1 ≤ n
  · obtain ⟨b, off, rfl, hb, hTb⟩ := hT h1
    have := hb'.size
    exact check_all b off n cap T w' x y hc hm (by omega) (TasksAt.below hTb hb hb')
  · unfold chkR at hc
    rw [if_neg (by omega)] at hc
    cases hc
    refine (check_many so n cap w' (by omega) hm).mono ?_
    rintro e w'' ⟨rfl, rfl⟩
    exact ⟨rfl, Below.refl _ _⟩

end Go.Proofs.YtdabcflpcklfiaaGreat

/- The document's Assign, walked; and the law Assigned. -/
namespace Go.Proofs.YtdabcflpcklfiaaGreat
open Go.RowKit

theorem Tryz.info4 : (Tryz.prog.info? 4).map (fun i => (i.zero, i.size, i.bytes)) = some (some (.bool false), 1, 1) := by kernel_rfl

theorem zero_b (q : Nat) : ((Value.bool false).cells[q % (Value.bool false).cells.size]!) = fls q := by
  have h : q % 1 = 0 := Nat.mod_one q
  show (#[Value.bool false] : Array Value)[q % 1]! = _
  rw [h]
  rfl

set_option maxRecDepth 100000 in
set_option maxHeartbeats 1000000 in
theorem refassign_err (so : Option Addr) (n cap : Nat) (x y : Int) (w : World) (hx : x ≠ 0) (hC : Calls Tryz.prog 42 #[.slice so n cap] w fun e w' => e = .returned (.tuple #[.int .i64 x, .int .i64 y]) ∧ Below w.heap.size w w') :
    Calls Tryz.prog 40 #[.slice so n cap] w fun e w' => e = .returned (.tuple #[.slice none 0 0, .int .i64 x, .int .i64 y]) ∧ Below w.heap.size w w' := by
  have HC : Hid (Calls Tryz.prog 42 #[.slice so n cap] w fun e w' => e = .returned (.tuple #[.int .i64 x, .int .i64 y]) ∧ Below w.heap.size w w') := hC
  have hd : (x != 0) = true := by simpa using hx
  clear hC hx
  go_enter Tryz.func40, Tryz.ntmps40
  go_wp2_with fail
  refine (HC.out).mono ?_
  rintro e w1 ⟨rfl, hb1⟩
  have HB1 : Hid (Below w.heap.size w w1) := hb1
  clear hb1
  go_wp2
  go_ret3
  exact ⟨rfl, HB1.out⟩

/-- The document's search in memory: who has a priority, and which. -/
structure RefAt (w wr : World) (gb pb n p : Nat) (T : TD) (H : Nat → Bool) (Z : Nat → Int) : Prop where
  part : RefPart T n p H Z
  rg : wr.rowIs gb 4 n (fun q => .bool (!H q))
  rp : wr.rowIs pb 3 n (fun q => .int .i64 (Z q))
  bel : Below w.heap.size w wr

theorem RefAt.next {w wr : World} {gb pb n p : Nat} {T : TD} {H : Nat → Bool} {Z : Nat → Int} (hG : Good T n) (h : RefAt w wr gb pb n p T H Z) (hgb : w.heap.size ≤ gb) (hpb : w.heap.size ≤ pb) {f : Nat} (hf : f < n) (hH : H f = true) (hb : Has T n (dropI H f) f) (hmax : ∀ j, f < j → j < n → H j = true → ¬ Has T n (dropI H j) j) :
    RefAt w ((wr.setCell ⟨gb, f, none⟩ (.bool true)).setCell ⟨pb, f, none⟩ (.int .i64 p)) gb pb n (p + 1) T (dropI H f) (updZ Z f p) := by
  have hne : gb ≠ pb := rows_ne h.rg h.rp (by decide)
  refine ⟨h.part.next hG hf hH hb hmax, ?_, ?_, (h.bel.setCell hgb _).setCell hpb _⟩
  · refine ((h.rg.set f (.bool true)).setOther (by simpa using hne) _).congr (fun q _ => ?_)
    unfold dropI
    by_cases e : q = f
    · rw [if_pos e, if_pos e]; rfl
    · rw [if_neg e, if_neg e]
  · exact row_set_int (h.rp.setOther (by simpa using hne.symm) _) f p

set_option maxRecDepth 100000 in
set_option maxHeartbeats 2000000 in
theorem refassign_ok (b off n cap : Nat) (T : TD) (w : World) (hc : chkR T n = (0, 0)) (hb : b < w.heap.size) (hT : TasksAt w b off n T) :
    Calls Tryz.prog 40 #[.slice (some ⟨b, off, none⟩) n cap] w fun e w' => (e = .returned (.tuple #[.slice none 0 0, .int .i64 10, .int .i64 0]) ∧ ¬ Poss T n (fun q => decide (q < n)) ∨ ∃ pb Z, e = .returned (.tuple #[.slice (some ⟨pb, 0, none⟩) n n, .int .i64 0, .int .i64 0]) ∧ w'.rowIs pb 3 n (fun q => .int .i64 (Z q)) ∧ Cad.PrioB Z n ∧ (∀ i, i < n → Low T n (fun q => if q < n then decide (Z i ≤ Z q) else false) i)) ∧ Below w.heap.size w w' := by
  obtain ⟨i0, hi0, hq0, hq1, hq2⟩ := info_parts Tryz.info3
  obtain ⟨i4, hi4, hp0, hp1, hp2⟩ := info_parts Tryz.info4
  have hG := (good_of_chk hc).1
  have h8 := hG.eight
  have HG : Hid (Good T n) := hG
  have HC : Hid (chkR T n = (0, 0)) := hc
  have HT : Hid (TasksAt w b off n T) := hT
  clear hT hc hG
  go_enter Tryz.func40, Tryz.ntmps40
  go_wp2_with fail
  refine (ref_all b off n cap T _ 0 0 HC.out (by omega) hb HT.out).mono ?_
  rintro e w1 ⟨rfl, hb1⟩
  have HB1 : Hid (Below w.heap.size w w1) := hb1
  have hs1 := hb1.size
  clear hb1
  go_wp2_with (at_make; refine wpList_make_is _ rfl _ _ 134 rfl 4 i4 _ 1 1 Tryz.underlying134 hi4 hp0 hp1 hp2 _ _ _ _ n rfl rfl (by omega) (by omega) (by omega) (by omega) fls zero_b ?_)
  intro w2 hr2 hg2 hs2
  have HB2 : Hid (Below w.heap.size w w2) := HB1.out.grown hg2 (by omega) (fun k hk => by cases hk)
  have HR2 : Hid (w2.rowIs w1.heap.size 4 n (fun q => .bool (!decide (q < n)))) := by
    have : w2.rowIs w1.heap.size 4 n fls := by simpa using hr2
    exact this.congr (fun q hq => by simp [hq, fls])
  have hgb : w.heap.size ≤ w1.heap.size := by omega
  have hs2' : w.heap.size ≤ w2.heap.size := by omega
  generalize w1.heap.size = gb at *
  clear hr2 hg2 hs2
  go_wp2_with (at_make; refine wpList_make_is _ rfl _ _ 23 rfl 3 i0 _ 1 8 Tryz.underlying23 hi0 hq0 hq1 hq2 _ _ _ _ n rfl rfl (by omega) (by omega) (by omega) (by omega) z1 zero_1 ?_)
  intro w3 hr3 hg3 hs3
  have HB3 : Hid (Below w.heap.size w w3) := HB2.out.grown hg3 (by omega) (fun k hk => by cases hk)
  have HR3 : Hid (w3.rowIs w2.heap.size 3 n (fun q => .int .i64 ((fun _ => (0 : Int)) q))) := by
    have : w3.rowIs w2.heap.size 3 n z1 := by simpa using hr3
    exact this
  have HG3 : Hid (w3.rowIs gb 4 n (fun q => .bool (!decide (q < n)))) := HR2.out.of_block (hg3.block _ HR2.out.lt (by simp))
  have hpb : w.heap.size ≤ w2.heap.size := by omega
  generalize w2.heap.size = pb at *
  have HST : Hid (RefAt w w3 gb pb n 0 T (fun q => decide (q < n)) (fun _ => 0)) := ⟨RefPart.start, HG3.out, HR3.out, HB3.out⟩
  clear hr3 hg3 HB1 HB2 HR2 HB3 HR3 HG3 hs3
  go_wp2_with fail
  go_loopw [10] (fun lv wr => ∃ (p : Nat) (H : Nat → Bool) (Z : Nat → Int), p ≤ n ∧ lv = .int .i64 p ∧ RefAt w wr gb pb n p T H Z) (fun lv _ => n - (intOf lv).toNat)
  case atStart => exact ⟨0, _, _, Nat.zero_le _, rfl, HST.out⟩
  case round =>
    clear HST
    obtain ⟨p, H, Z, hp, rfl, hat⟩ := hrel
    have HAT : Hid (RefAt w wr gb pb n p T H Z) := hat
    clear hat
    by_cases hlt : p < n
    · go_wp2_with fail
      go_loopw [11, 12] (fun fv iv wr => ∃ i : Nat, i ≤ n ∧ iv = .int .i64 i ∧ RefAt w wr gb pb n p T H Z ∧ ((fv = .int .i64 (-1) ∧ ∀ j, j < i → H j = true → ¬ Has T n (dropI H j) j) ∨ ∃ f : Nat, fv = .int .i64 f ∧ f < i ∧ H f = true ∧ Has T n (dropI H f) f ∧ ∀ j, f < j → j < i → H j = true → ¬ Has T n (dropI H j) j)) (fun _ iv _ => n - (intOf iv).toNat)
      case atStart => exact ⟨0, Nat.zero_le _, rfl, HAT.out, .inl ⟨rfl, fun j hj => by omega⟩⟩
      case round =>
        clear HAT
        obtain ⟨i, hi, rfl, hat, hfo⟩ := hrel
        have HAT : Hid (RefAt w wr gb pb n p T H Z) := hat
        clear hat
        by_cases hil : i < n
        · have y1 : wr.cell? ⟨gb, i, none⟩ = some (.bool (!H i)) := HAT.out.rg.cell hil
          have hgl := HAT.out.rg.lt
          have hpl := HAT.out.rp.lt
          have hsz := HAT.out.bel.size
          rcases Bool.eq_false_or_eq_true (H i) with hg | hg
          · rw [hg] at y1
            have HG1 : Hid (H i = true) := hg
            clear hg
            obtain ⟨hpr, hab⟩ := try_prio HAT.out.part.part hil HG1.out
            have HPR : Hid (Cad.PrioB (tryZ H Z i p) n) := hpr
            have HAB : Hid (abv (tryZ H Z i p) n i = dropI H i) := hab
            clear hpr hab
            go_wp2_with fail
            refine (tried_any pb gb n n n i p H Z wr h8 hil HG1.out (by omega) hpl hgl HAT.out.rp HAT.out.rg).mono ?_
            rintro e w5 ⟨v, rfl, hown5, hb5⟩
            obtain ⟨qo, qc, hqv, hqi⟩ := outY_own hown5
            subst hqv
            obtain ⟨qb, qf, hqe, hqq⟩ := hqi (by omega)
            subst hqe
            have hqbl : qb < w5.heap.size := World.block_lt_of_cell? w5 _ (hqq i hil)
            have HQQ : Hid (IntsAt w5 qb qf n (tryZ H Z i p)) := hqq
            have HB5 : Hid (Below wr.heap.size wr w5) := hb5
            have hs5 := hb5.size
            have HBW5 : Hid (Below w.heap.size w w5) := HAT.out.bel.trans (hb5.mono hsz)
            clear hown5 hqq hb5 hqi
            go_wp2_with fail
            refine (refbound_any b off n cap qb qf qc i T (tryZ H Z i p) w5 HG.out hil (by omega) hqbl (TasksAt.below HT.out hb HBW5.out) HQQ.out (fun t ht => (HPR.out.1 t ht).1)).mono ?_
            rintro e w6 ⟨s, r, rfl, hmx, hbd, hb6⟩
            have HHS : Hid (Has T n (dropI H i) i ↔ 0 < r) := by
              have := refB_set HG.out hil HPR.out ⟨s, hmx, hbd⟩
              rw [HAB.out] at this
              exact has_iff this
            have hbw6 : Below wr.heap.size wr w6 := HB5.out.trans (hb6.mono hs5)
            have HAT6 : Hid (RefAt w w6 gb pb n p T H Z) := ⟨HAT.out.part, HAT.out.rg.of_block (hbw6.block _ hgl), HAT.out.rp.of_block (hbw6.block _ hpl), HAT.out.bel.trans (hbw6.mono hsz)⟩
            clear hmx hbd hb6 hbw6 HB5 HBW5 HQQ y1
            by_cases hr0 : 0 < r
            · have bd : decide (0 < r) = true := by simpa using hr0
              have HF : Hid (Has T n (dropI H i) i) := HHS.out.2 hr0
              clear hfo
              go_wp2
              go_roundw
              case rel => exact ⟨i + 1, by omega, by go_num, HAT6.out, .inr ⟨i, rfl, by omega, HG1.out, HF.out, fun j h1 h2 => by omega⟩⟩
              case measure => simp [intOf]; omega
            · have bd : decide (0 < r) = false := by simpa using hr0
              have HF : Hid (¬ Has T n (dropI H i) i) := fun h => hr0 (HHS.out.1 h)
              rcases hfo with ⟨rfl, hno⟩ | ⟨f, rfl, hfi, hfH, hfb, hfm⟩
              · go_wp2
                go_roundw
                case rel => exact ⟨i + 1, by omega, by go_num, HAT6.out, .inl ⟨rfl, fun j hj hH => by
                  by_cases e : j = i
                  · subst e; exact HF.out
                  · exact hno j (by omega) hH⟩⟩
                case measure => simp [intOf]; omega
              · have HFM : Hid (H f = true ∧ Has T n (dropI H f) f ∧ ∀ j, f < j → j < i → H j = true → ¬ Has T n (dropI H j) j) := ⟨hfH, hfb, hfm⟩
                clear hfH hfb hfm
                go_wp2
                go_roundw
                case rel => exact ⟨i + 1, by omega, by go_num, HAT6.out, .inr ⟨f, rfl, by omega, HFM.out.1, HFM.out.2.1, fun j h1 h2 hH => by
                  by_cases e : j = i
                  · subst e; exact HF.out
                  · exact HFM.out.2.2 j h1 (by omega) hH⟩⟩
                case measure => simp [intOf]; omega
          · rw [hg] at y1
            have HG1 : Hid (H i = false) := hg
            clear hg
            go_wp2
            go_roundw
            case rel => exact ⟨i + 1, by omega, by go_num, HAT.out, hfo.imp (fun h => ⟨h.1, fun j hj hH => by
                by_cases e : j = i
                · subst e; rw [HG1.out] at hH; cases hH
                · exact h.2 j (by omega) hH⟩) (fun ⟨f, h1, h2, h3, h4, h5⟩ => ⟨f, h1, by omega, h3, h4, fun j hj1 hj2 hH => by
                by_cases e : j = i
                · subst e; rw [HG1.out] at hH; cases hH
                · exact h5 j hj1 (by omega) hH⟩)⟩
            case measure => simp [intOf]; omega
        · obtain rfl : i = n := by omega
          rcases hfo with ⟨rfl, hno⟩ | ⟨f, rfl, hfi, hfH, hfb, hfm⟩
          · have HNO : Hid (¬ Poss T i (fun q => decide (q < i))) := HAT.out.part.none hlt hno
            clear hno
            go_wp2
            go_ret3
            exact ⟨.inl ⟨rfl, HNO.out⟩, HAT.out.bel⟩
          · have HNX : Hid (RefAt w ((wr.setCell ⟨gb, f, none⟩ (.bool true)).setCell ⟨pb, f, none⟩ (.int .i64 p)) gb pb i (p + 1) T (dropI H f) (updZ Z f p)) := HAT.out.next HG.out hgb hpb hfi hfH hfb hfm
            have x0 : wr.cell? ⟨gb, f, none⟩ = some (.bool (!H f)) := HAT.out.rg.cell hfi
            have x1 : wr.cell? ⟨pb, f, none⟩ = some (.int .i64 (Z f)) := HAT.out.rp.cell hfi
            have zz0 : ∀ q, wr.frozen? ⟨gb, q, none⟩ = false := fun q => HAT.out.rg.frozen q
            have zz1 : ∀ q, wr.frozen? ⟨pb, q, none⟩ = false := fun q => HAT.out.rp.frozen q
            have hne : gb ≠ pb := rows_ne HAT.out.rg HAT.out.rp (by decide)
            clear hfH hfb hfm
            go_wp2
            go_roundw
            case rel => exact ⟨p + 1, _, _, by omega, by go_num, HNX.out⟩
            case measure => simp [intOf]; omega
    · obtain rfl : p = n := by omega
      obtain ⟨hd1, hd2⟩ := HAT.out.part.done
      have HD1 : Hid (Cad.PrioB Z p) := hd1
      have HD2 : Hid (∀ i, i < p → Low T p (fun q => if q < p then decide (Z i ≤ Z q) else false) i) := hd2
      clear hd1 hd2
      go_wp2
      go_ret3
      exact ⟨.inr ⟨pb, Z, rfl, HAT.out.rp, HD1.out, HD2.out⟩, HAT.out.bel⟩

end Go.Proofs.YtdabcflpcklfiaaGreat

/- The law Assigned. -/
namespace Go.Proofs.YtdabcflpcklfiaaGreat
open Go.RowKit

/-- How Assign comes out. -/
def OutcS (T : TD) (n : Nat) (E A : Int) (m : Nat) : Prop :=
  (m = 0 ∧ chkR T n = (E, A) ∧ E ≠ 0) ∨ (m = 0 ∧ chkR T n = (0, 0) ∧ E = 10 ∧ A = 0 ∧ ¬ Poss T n (fun q => decide (q < n))) ∨ (m = n ∧ chkR T n = (0, 0) ∧ E = 0 ∧ A = 0 ∧ Poss T n (fun q => decide (q < n)))

theorem outcS_ex (T : TD) (n : Nat) : ∃ E A m, OutcS T n E A m ∧ m ≤ 8 := by
  obtain ⟨x, y, hxy⟩ : ∃ x y, chkR T n = (x, y) := ⟨_, _, rfl⟩
  by_cases hx : x = 0
  · subst hx
    obtain ⟨hg, hy⟩ := good_of_chk hxy
    subst hy
    by_cases hp : Poss T n (fun q => decide (q < n))
    · exact ⟨0, 0, n, .inr (.inr ⟨rfl, hxy, rfl, rfl, hp⟩), hg.eight⟩
    · exact ⟨10, 0, 0, .inr (.inl ⟨rfl, hxy, rfl, rfl, hp⟩), by omega⟩
  · exact ⟨x, y, 0, .inl ⟨rfl, hxy, hx⟩, by omega⟩

theorem outcS_lent {T : TD} {S : Nat → Nat} {n m : Nat} {E A : Int} (h : OutcS T n E A m) : OutcS (T.lent S) n E A m := h

theorem code_allS (b off n cap : Nat) (T : TD) (E A : Int) (m : Nat) (w : World) (hm : n ≤ 9223372036854775807) (ho : OutcS T n E A m) (hb : b < w.heap.size) (hT : TasksAt w b off n T) :
    Calls Tryz.prog 39 #[.slice (some ⟨b, off, none⟩) n cap] w fun e w' => ∃ xv X, e = .returned (.tuple #[xv, .int .i64 E, .int .i64 A]) ∧ OutX w.heap.size w' m xv X ∧ (1 ≤ m → Cad.PrioB X n ∧ ∀ i, i < n → Low T n (fun q => if q < n then decide (X i ≤ X q) else false) i) ∧ Below w.heap.size w w' := by
  rcases ho with ⟨rfl, hc, hE⟩ | ⟨rfl, hc, rfl, rfl, hno⟩ | ⟨rfl, hc, rfl, rfl, hp⟩
  · refine (assign_err _ n cap E A w hE (check_errs _ n cap T w hm (fun _ => ⟨b, off, rfl, hb, hT⟩) E A hc w (Below.refl _ _))).mono ?_
    rintro e w' ⟨rfl, hb'⟩
    exact ⟨_, fun _ => 0, rfl, .inl ⟨rfl, rfl⟩, fun h => by omega, hb'⟩
  · refine (assign_ok b off n cap T w hc hb hT).mono ?_
    rintro e w' ⟨⟨rfl, _⟩ | ⟨pb, Z, rfl, _, _, hpr, hhas, _⟩, hb'⟩
    · exact ⟨_, fun _ => 0, rfl, .inl ⟨rfl, rfl⟩, fun h => by omega, hb'⟩
    · exact absurd (poss_of_prio hpr hhas) hno
  · refine (assign_ok b off _ cap T w hc hb hT).mono ?_
    rintro e w' ⟨⟨rfl, hno⟩ | ⟨pb, Z, rfl, hpb, hrow, hpr, _, hlow⟩, hb'⟩
    · exact absurd hp hno
    · exact ⟨_, Z, rfl, .inr ⟨pb, rfl, hpb, hrow⟩, fun _ => ⟨hpr, hlow⟩, hb'⟩

theorem ref_allS (b off n cap : Nat) (T : TD) (E A : Int) (m : Nat) (w : World) (hm : n ≤ 9223372036854775807) (ho : OutcS T n E A m) (hb : b < w.heap.size) (hT : TasksAt w b off n T) :
    Calls Tryz.prog 40 #[.slice (some ⟨b, off, none⟩) n cap] w fun e w' => ∃ yv Y, e = .returned (.tuple #[yv, .int .i64 E, .int .i64 A]) ∧ OutY w' m yv Y ∧ (1 ≤ m → Cad.PrioB Y n ∧ ∀ i, i < n → Low T n (fun q => if q < n then decide (Y i ≤ Y q) else false) i) ∧ Below w.heap.size w w' := by
  rcases ho with ⟨rfl, hc, hE⟩ | ⟨rfl, hc, rfl, rfl, hno⟩ | ⟨rfl, hc, rfl, rfl, hp⟩
  · refine (refassign_err _ n cap E A w hE (ref_all b off n cap T w E A hc hm hb hT)).mono ?_
    rintro e w' ⟨rfl, hb'⟩
    exact ⟨_, fun _ => 0, rfl, ⟨_, _, rfl, fun h => by omega⟩, fun h => by omega, hb'⟩
  · refine (refassign_ok b off n cap T w hc hb hT).mono ?_
    rintro e w' ⟨⟨rfl, _⟩ | ⟨pb, Z, rfl, _, hpr, hlow⟩, hb'⟩
    · exact ⟨_, fun _ => 0, rfl, ⟨_, _, rfl, fun h => by omega⟩, fun h => by omega, hb'⟩
    · refine absurd ?_ hno
      have h1 := (good_of_chk hc).1.one
      obtain ⟨a, ha, hz⟩ := (Cad.order_iff Z n).2 hpr 0 (by omega)
      have hl := (hlow a ha).poss
      have e : (fun q => if q < n then decide (Z a ≤ Z q) else false) = (fun q => decide (q < n)) := by
        funext q
        by_cases hq : q < n
        · rw [if_pos hq]
          have := (hpr.1 q hq).1
          simp only [hq, decide_true, decide_eq_true_eq]
          omega
        · rw [if_neg hq]; simp [hq]
      rw [e] at hl
      exact hl
  · refine (refassign_ok b off _ cap T w hc hb hT).mono ?_
    rintro e w' ⟨⟨rfl, hno⟩ | ⟨pb, Z, rfl, hrow, hpr, hlow⟩, hb'⟩
    · exact absurd hp hno
    · exact ⟨_, Z, rfl, ⟨_, _, rfl, fun _ => ⟨pb, 0, rfl, fun i hi => by rw [Nat.zero_add]; exact hrow.cell hi⟩⟩, fun _ => ⟨hpr, hlow⟩, hb'⟩

theorem outcS_same {T : TD} {n m : Nat} {E A : Int} {X Y : Nat → Int} (ho : OutcS T n E A m) (hX : 1 ≤ m → Cad.PrioB X n ∧ ∀ i, i < n → Low T n (fun q => if q < n then decide (X i ≤ X q) else false) i) (hY : 1 ≤ m → Cad.PrioB Y n ∧ ∀ i, i < n → Low T n (fun q => if q < n then decide (Y i ≤ Y q) else false) i) : ∀ i, i < m → X i = Y i := by
  intro i hi
  obtain ⟨x1, x2⟩ := hX (by omega)
  obtain ⟨y1, y2⟩ := hY (by omega)
  refine low_prio_unique x1 y1 x2 y2 i ?_
  rcases ho with ⟨rfl, _⟩ | ⟨rfl, _⟩ | ⟨rfl, _⟩
  · omega
  · omega
  · exact hi

end Go.Proofs.YtdabcflpcklfiaaGreat

/- The law All: what Analyze, Assign and Check leave of its lists. -/
namespace Go.Proofs.YtdabcflpcklfiaaGreat
open Go.RowKit Cad

theorem ret_open {w w5 w6 : World} {Wb n : Nat} {S : Nat → Nat} {M E M1 E1 : Nat → Prop} {V V1 : Nat → Value} {C C1 : Nat → List Value} {last : Int} (hd : Dis M E) (loM : Lo M w.heap.size) (loE : Lo E w.heap.size) (hb : Below w.heap.size w w5) (hr : RetE w5 w6 Wb n w.heap.size S M E M1 E1 V V1 C C1 last) (hS : ∀ j, j < n → w.heap.size < S j ∧ S j < w5.heap.size) (hz : w.heap.size < w5.heap.size) :
    OpenE w w6 Wb n M E M1 E1 V1 C C1 last := by
  have z6 := hr.fr.size
  have hE1 : ∀ q, E1 q → E q ∨ (w.heap.size ≤ q ∧ q < w5.heap.size) := fun q h => by
    rcases hr.ef q h with g | g | ⟨j, hj, g⟩
    · exact .inl g
    · exact .inr (by omega)
    · have := hS j hj; exact .inr (by omega)
  refine ⟨hr.lm, hr.le, fun q h1 h2 => ?_, fun q h => ?_, fun q h => ?_, ?_, fun i hi => ?_, (hr.cs 0 (by omega) (by decide) (by decide)).1⟩
  · rcases hr.mf q h1 with g | g
    · rcases hE1 q h2 with e | e
      · exact hd q g e
      · have := loM q g; omega
    · rcases hE1 q h2 with e | e
      · have := loE q e; omega
      · omega
  · rcases hr.mf q h with g | g
    · exact .inl g
    · exact .inr (by omega)
  · rcases hE1 q h with g | g
    · exact .inl g
    · exact .inr (by omega)
  · refine (Fr.of_below M hb).trans hr.fr (fun q g => ?_)
    rcases g with g | g | ⟨j, hj, g⟩
    · exact .inl g
    · exact .inr (by omega)
    · have := hS j hj; exact .inr (by omega)
  · by_cases e6 : i = 6
    · subst e6
      have := hr.cl.1
      omega
    · by_cases e7 : i = 7
      · subst e7
        have := hr.cl.2
        omega
      · rw [(hr.cs i hi e6 e7).1]
        omega

theorem keep_end {w w7 w8 : World} {Wb n : Nat} {l0 : Value} {M E M7 E7 M8 E8 : Nat → Prop} {V7 V8 : Nat → Value} {C C7 C8 : Nat → List Value} {last : Int} (ho : OpenE w w7 Wb n M E M7 E7 V7 C C7 last) (hk : KIEnd w7 w8 Wb l0 M7 E7 M8 E8 V7 V8 C7 C8 last) (hl : ∀ q, l0.ownBlock = some q → w.heap.size ≤ q ∧ q < w7.heap.size) :
    MV w w8 Wb (n + 5) M E M8 E8 V8 C C8 last (last - 1) := by
  have z7 := ho.fr.size
  have z8 := hk.fr.size
  refine ⟨hk.lm, hk.le, hk.dis, fun q h => ?_, fun q h => ?_, ho.fr.trans hk.fr (fun q g => ?_), fun i hi => ?_, by rw [hk.c0.1, ho.c0], by omega, by omega⟩
  · rcases hk.mf q h with g | g
    · rcases ho.mf q g with e | e
      · exact .inl e
      · exact .inr (by omega)
    · exact .inr (by omega)
  · rcases hk.ef q h with g | g | g
    · rcases ho.ef q g with e | e
      · exact .inl e
      · exact .inr (by omega)
    · have := hl q g; exact .inr (by omega)
    · exact .inr (by omega)
  · rcases g with g | g
    · rcases ho.mf q g with e | e
      · exact .inl e
      · exact .inr e.1
    · exact .inr (hl q g).1
  · have := hk.cl i hi
    have := ho.cl i hi
    omega

theorem chk_none {T : TD} {E A : Int} (h : chkR T 0 = (E, A)) : E = 1 ∧ A = 0 := by
  have e : chkR T 0 = (1, 0) := by unfold chkR; rw [if_neg (by omega)]
  rw [e] at h
  cases h
  exact ⟨rfl, rfl⟩

theorem ref_anaN {B0 b off n cap : Nat} {tO ao : Option Addr} {pn pc : Nat} {T : TD} {Z : Nat → Int} {E A : Int} {m : Nat} {w : World} (ha : TArg w B0 b n tO off T) (hB0 : B0 ≤ w.heap.size) (ho : Outc T Z n pn E A m)
    (hZ : 1 ≤ pn → ∃ pb po, ao = some ⟨pb, po, none⟩ ∧ pb < w.heap.size ∧ IntsAt w pb po pn Z) :
    Calls Tryz.prog 36 #[.slice tO n cap, .slice ao pn pc] w fun e w' => ∃ yo yc Y, e = .returned (.tuple #[.slice yo m yc, .int .i64 E, .int .i64 A]) ∧ (1 ≤ m → ∃ b off, yo = some ⟨b, off, none⟩ ∧ IntsAt w' b off m Y) ∧ (∀ i, i < m → RefB T Z n i (Y i)) ∧ Below w.heap.size w w' := by
  have n8 := ha.n8
  by_cases h1 : 1 ≤ n
  · obtain ⟨rfl, hbB⟩ := ha.some' h1
    refine Calls.mono (ref_allA b off n cap ao pn pc T Z E A m w (by omega) ho (by omega) ha.tasks hZ) ?_
    rintro e w' ⟨yv, Y, he, ⟨yo, yc, rfl, hy⟩, hY, hb⟩
    exact ⟨yo, yc, Y, he, hy, hY, hb⟩
  · obtain rfl : n = 0 := by omega
    rcases ho with ⟨rfl, hc, hE⟩ | ⟨rfl, hc, _⟩ | ⟨rfl, hc, _⟩
    · obtain ⟨rfl, rfl⟩ := chk_none hc
      refine Calls.mono (refana_none2 tO cap _ w) ?_
      rintro e w' ⟨he, hb⟩
      exact ⟨none, 0, fun _ => 0, he, fun h => by omega, fun i hi => by omega, hb⟩
    · have := (chk_none hc).1; omega
    · have := (chk_none hc).1; omega

theorem ref_asgN {B0 b off n cap : Nat} {tO : Option Addr} {T : TD} {E A : Int} {m : Nat} {w : World} (ha : TArg w B0 b n tO off T) (hB0 : B0 ≤ w.heap.size) (ho : OutcS T n E A m) :
    Calls Tryz.prog 40 #[.slice tO n cap] w fun e w' => ∃ yo yc Y, e = .returned (.tuple #[.slice yo m yc, .int .i64 E, .int .i64 A]) ∧ (1 ≤ m → ∃ b off, yo = some ⟨b, off, none⟩ ∧ IntsAt w' b off m Y) ∧ (1 ≤ m → Cad.PrioB Y n ∧ ∀ i, i < n → Low T n (fun q => if q < n then decide (Y i ≤ Y q) else false) i) ∧ Below w.heap.size w w' := by
  have n8 := ha.n8
  by_cases h1 : 1 ≤ n
  · obtain ⟨rfl, hbB⟩ := ha.some' h1
    refine Calls.mono (ref_allS b off n cap T E A m w (by omega) ho (by omega) ha.tasks) ?_
    rintro e w' ⟨yv, Y, he, ⟨yo, yc, rfl, hy⟩, hY, hb⟩
    exact ⟨yo, yc, Y, he, hy, hY, hb⟩
  · obtain rfl : n = 0 := by omega
    rcases ho with ⟨rfl, hc, hE⟩ | ⟨rfl, hc, _⟩ | ⟨rfl, hc, _⟩
    · obtain ⟨rfl, rfl⟩ := chk_none hc
      refine Calls.mono (refassign_err tO 0 cap 1 0 w (by decide) (Calls.mono (ref_many tO 0 cap w (by omega) (by omega)) (fun e w' h => ⟨h.1, by rw [h.2]; exact Below.refl _ _⟩))) ?_
      rintro e w' ⟨he, hb⟩
      exact ⟨none, 0, fun _ => 0, he, fun h => by omega, fun h => by omega, hb⟩
    · have := (chk_none hc).1; omega
    · have := (chk_none hc).1; omega

theorem ref_chkN {B0 b off n cap : Nat} {tO : Option Addr} {T : TD} {E A : Int} {w : World} (ha : TArg w B0 b n tO off T) (hB0 : B0 ≤ w.heap.size) (hc : chkR T n = (E, A)) :
    Calls Tryz.prog 42 #[.slice tO n cap] w fun e w' => e = .returned (.tuple #[.int .i64 E, .int .i64 A]) ∧ Below w.heap.size w w' := by
  have n8 := ha.n8
  by_cases h1 : 1 ≤ n
  · obtain ⟨rfl, hbB⟩ := ha.some' h1
    exact ref_all b off n cap T w E A hc (by omega) (by omega) ha.tasks
  · obtain rfl : n = 0 := by omega
    obtain ⟨rfl, rfl⟩ := chk_none hc
    exact Calls.mono (ref_many tO 0 cap w (by omega) (by omega)) (fun e w' h => ⟨h.1, by rw [h.2]; exact Below.refl _ _⟩)

theorem code_anaX (b off n cap : Nat) (ao : Option Addr) (pn pc : Nat) (T : TD) (Z : Nat → Int) (E A : Int) (m : Nat) (w : World) (hm : n ≤ 9223372036854775807) (ho : Outc T Z n pn E A m) (hb : b < w.heap.size) (hT : TasksAt w b off n T)
    (hZ : 1 ≤ pn → ∃ pb po, ao = some ⟨pb, po, none⟩ ∧ pb < w.heap.size ∧ IntsAt w pb po pn Z) :
    Calls Tryz.prog 35 #[.slice (some ⟨b, off, none⟩) n cap, .slice ao pn pc] w fun e w' => ∃ xo xc X, e = .returned (.tuple #[.slice xo m xc, .int .i64 E, .int .i64 A]) ∧ OutX w.heap.size w' m (.slice xo m xc) X ∧ (∀ i, i < m → CodeB T Z n i (X i)) ∧ Below w.heap.size w w' := by
  refine Calls.mono (code_all b off n cap ao pn pc T Z E A m w hm ho hb hT hZ) ?_
  rintro e w' ⟨xv, X, he, hx, hX, hb⟩
  obtain ⟨xo, xc, rfl⟩ := hx.shape
  exact ⟨xo, xc, X, he, hx, hX, hb⟩

theorem code_asgX (b off n cap : Nat) (T : TD) (E A : Int) (m : Nat) (w : World) (hm : n ≤ 9223372036854775807) (ho : OutcS T n E A m) (hb : b < w.heap.size) (hT : TasksAt w b off n T) :
    Calls Tryz.prog 39 #[.slice (some ⟨b, off, none⟩) n cap] w fun e w' => ∃ xo xc X, e = .returned (.tuple #[.slice xo m xc, .int .i64 E, .int .i64 A]) ∧ OutX w.heap.size w' m (.slice xo m xc) X ∧ (1 ≤ m → Cad.PrioB X n ∧ ∀ i, i < n → Low T n (fun q => if q < n then decide (X i ≤ X q) else false) i) ∧ Below w.heap.size w w' := by
  refine Calls.mono (code_allS b off n cap T E A m w hm ho hb hT) ?_
  rintro e w' ⟨xv, X, he, hx, hX, hb⟩
  obtain ⟨xo, xc, rfl⟩ := hx.shape
  exact ⟨xo, xc, X, he, hx, hX, hb⟩

/-- A list that came out stands where it stood. -/
theorem OutX.lst {B m xc : Nat} {w w' : World} {xo : Option Addr} {X : Nat → Int} (h : OutX B w m (.slice xo m xc) X) (hs : ∀ q, B ≤ q → q < w.heap.size → w'.heap[q]? = w.heap[q]?) : LstN w' m (.slice xo m xc) ∧ ∀ q, (Value.slice xo m xc).ownBlock = some q → B ≤ q ∧ q < w.heap.size := by
  rcases h with ⟨e, h0⟩ | ⟨g, e, hg, hr⟩
  · rw [e]
    exact ⟨.inl ⟨rfl, h0⟩, fun q hq => by simp [Value.ownBlock] at hq⟩
  · rw [e]
    refine ⟨.inr ⟨g, _, rfl, hr.of_block (hs g hg hr.lt)⟩, fun q hq => ?_⟩
    cases hq
    exact ⟨hg, hr.lt⟩

end Go.Proofs.YtdabcflpcklfiaaGreat

/- The law All: Analyze is asked. -/
namespace Go.Proofs.YtdabcflpcklfiaaGreat
open Go.RowKit Cad

set_option maxRecDepth 100000 in
set_option maxHeartbeats 8000000 in
theorem analyzes_any {B0 b off n cap Wb pn pc : Nat} {tO ao : Option Addr} {T : TD} {Z : Nat → Int} {w : World} {M E : Nat → Prop} {V : Nat → Value} {C : Nat → List Value} {last : Int} (hl : LW B0 Wb w M E V C last) (hC5 : ∀ i, i < 8 → (C i).length ≤ 100000000) (h0 : -1000000000 ≤ last) (h1 : last ≤ 0) (hnn : n ≤ 100000000) (ha : TArg w B0 b n tO off T) (hp : PArg w B0 pn ao Z) :
    Calls Tryz.prog 13 #[.pointer (some ⟨Wb, 0, none⟩), .slice tO n cap, .slice ao pn pc] w fun e w' => e = .returned (.bool true) ∧ ∃ M' E' V' C' last', MV w w' Wb (n + 5) M E M' E' V' C C' last last' := by
  have hB0 := hl.bb
  obtain ⟨Er, Ax, m, hout, hm8⟩ := outc_ex T Z n pn
  have HO : Hid (Outc T Z n pn Er Ax m) := hout
  have HLT : Hid _ := lent_all (cap := cap) ha hB0
  have hp8 := hp.1
  have hn8 := ha.n8
  have HX : Hid (Dis M E ∧ Lo M w.heap.size ∧ Lo E w.heap.size ∧ ∀ q, M q → B0 ≤ q) := ⟨hl.dis, hl.loM, hl.loE, hl.mb⟩
  have HA : Hid (TArg w B0 b n tO off T) := ha
  have HZ : Hid (1 ≤ pn → ∃ pb po, ao = some ⟨pb, po, none⟩ ∧ pb < B0 ∧ IntsAt w pb po pn Z) := hp.2
  have hret := fun (w1 w5 : World) (S : Nat → Nat) (v : Value) (h1 : LentInv w.heap.size n n T S v w w1) (h2 : Below w1.heap.size w1 w5) => ret_gen (cap := cap) hl.lm hl.le hl.dis hl.loM hl.loE hl.mb hC5 ha hB0 h1 h2
  have HRT : Hid _ := hret
  have HC5 : Hid (∀ i, i < 8 → (C i).length ≤ 100000000) := hC5
  have HLA : Hid (-1000000000 ≤ last ∧ last ≤ 0) := ⟨h0, h1⟩
  clear hC5 ha hp hret hl hout h0 h1
  go_enter Tryz.func13, Tryz.ntmps13
  go_wp2_with fail
  refine Calls.mono HLT.out ?_
  rintro e w1 ⟨S, v, rfl, hlent⟩
  obtain ⟨vo, vc, hvs⟩ := own_shapeK hlent.own
  subst hvs
  have HLE : Hid (LentInv w.heap.size n n T S (.slice vo n vc) w w1) := hlent
  have hlt1 : w.heap.size < w1.heap.size := hlent.lrow.lt
  have HB1 : Hid (Below w.heap.size w w1) := hlent.below
  have HTL : Hid (TasksAt w1 w.heap.size 0 n (T.lent S)) := lent_at hlent HA.out.l8
  clear hlent HLT
  go_wp2_with fail
  refine Calls.mono (lentInts_any ao pn pc Z _ hp8 (fun h => by
    obtain ⟨pb, po, e, hpb, hz⟩ := HZ.out h
    exact ⟨pb, po, e, by omega, IntsAt.below hz (by omega) HB1.out⟩)) ?_
  rintro e w2 ⟨rfl, hq2, hb2⟩
  have HQ2 : Hid (w2.rowIs w1.heap.size 3 (pn + 1) (lenf Z pn)) := hq2
  have HB2 : Hid (Below w1.heap.size w1 w2) := hb2
  have hs2 : w1.heap.size < w2.heap.size := hq2.lt
  have HZ2 : Hid (IntsAt w2 w1.heap.size 0 pn Z) := fun i hi => by
    rw [Nat.zero_add, hq2.cell (by omega)]
    unfold lenf
    rw [if_pos hi]
  have HB02 : Hid (Below w.heap.size w w2) := HB1.out.trans (hb2.mono (by omega))
  have HT2 : Hid (TasksAt w2 w.heap.size 0 n (T.lent S)) := TasksAt.below HTL.out hlt1 hb2
  clear hq2 hb2
  have HC3 : Hid (∀ wx, Below w2.heap.size w2 wx → Calls Tryz.prog 35 #[.slice (some ⟨w.heap.size, 0, none⟩) n (n + 1), .slice (some ⟨w1.heap.size, 0, none⟩) pn (pn + 1)] wx fun e w' => ∃ xo xc X, e = .returned (.tuple #[.slice xo m xc, .int .i64 Er, .int .i64 Ax]) ∧ True ∧ Hid (OutX w2.heap.size w' m (.slice xo m xc) X ∧ (∀ i, i < m → CodeB T Z n i (X i)) ∧ Below w2.heap.size w2 w')) := by
    intro wx hbx
    have hz := hbx.size
    refine Calls.mono (code_anaX w.heap.size 0 n (n + 1) (some ⟨w1.heap.size, 0, none⟩) pn (pn + 1) (T.lent S) Z Er Ax m wx (by omega) (outc_lent HO.out) (by omega) (TasksAt.below HT2.out (by omega) hbx) (fun _ => ⟨w1.heap.size, 0, rfl, by omega, IntsAt.below HZ2.out (by omega) hbx⟩)) ?_
    rintro e w' ⟨xo, xc, X, he, hx, hX, hb⟩
    refine ⟨xo, xc, X, he, trivial, ?_, hX, hbx.trans (hb.mono hz)⟩
    rcases hx with g | ⟨g, e1, e2, e3⟩
    · exact .inl g
    · exact .inr ⟨g, e1, by omega, e3⟩
  go_wp2_with fail
  go_region_held (fun _ => True) (first | go_keep | trivial) (first | (go_at_call 35; refine Calls.mono (HC3.out _ (below_drewM (Below.refl _ _) _)) ?_; rintro e w3 ⟨xo, xc, X, rfl, _, hb3⟩))
  all_goals
    have HX3 : Hid (OutX w2.heap.size w3 m (.slice xo m xc) X) := hb3.out.1
    have HCX : Hid (∀ i, i < m → CodeB T Z n i (X i)) := hb3.out.2.1
    have HB23 : Hid (Below w2.heap.size w2 w3) := hb3.out.2.2
    have HB03 : Hid (Below w.heap.size w w3) := HB02.out.trans (HB23.out.mono (by omega))
    have hs3 := HB23.out.size
    clear hb3 HC3
    have HRA : Hid _ := ref_anaN (cap := cap) (ao := ao) (pn := pn) (pc := pc) (HA.out.at (HB03.out.mono hB0) hB0) (by omega) HO.out (fun h => by
      obtain ⟨pb, po, e, hpb, hz⟩ := HZ.out h
      exact ⟨pb, po, e, by omega, IntsAt.below hz (by omega) HB03.out⟩)
    go_wp2_with fail
    refine Calls.mono HRA.out ?_
    rintro e w4 ⟨yo, yc, Y, rfl, hyi, hY, hb4⟩
    have HB34 : Hid (Below w3.heap.size w3 w4) := hb4
    have hs4 := hb4.size
    have HYI : Hid (1 ≤ m → ∃ b off, yo = some ⟨b, off, none⟩ ∧ IntsAt w4 b off m X) := fun h => by
      obtain ⟨yb, yf, e, hz⟩ := hyi h
      exact ⟨yb, yf, e, fun i hi => by rw [outc_same HO.out HCX.out hY i hi]; exact hz i hi⟩
    have HXI : Hid (1 ≤ m → ∃ b off, xo = some ⟨b, off, none⟩ ∧ IntsAt w4 b off m X) := HX3.out.ints hb4
    clear hyi hY hb4 HRA
    go_wp2_with fail
    refine Calls.mono (sameInts_any xo yo m _ yc X _ (by omega) HXI.out HYI.out) ?_
    rintro e w5 ⟨rfl, k5, hw5⟩
    have HB45 : Hid (Below w4.heap.size w4 w5) := by rw [hw5]; exact below_drewN (Below.refl _ _) _
    clear hw5 HXI HYI
    have hs5 := HB45.out.size
    have HB35 : Hid (Below w3.heap.size w3 w5) := HB34.out.trans (HB45.out.mono hs4)
    have HB15 : Hid (Below w1.heap.size w1 w5) := HB2.out.trans ((HB23.out.trans (HB35.out.mono hs3)).mono (by omega))
    have HB05 : Hid (Below w.heap.size w w5) := HB1.out.trans (HB15.out.mono (by omega))
    have HRET : Hid _ := HRT.out w1 w5 S (.slice vo n vc) HLE.out HB15.out
    have HSL : Hid (∀ j, j < n → w.heap.size < S j ∧ S j < w1.heap.size) := fun j hj => ⟨HLE.out.sgt j hj, (HLE.out.srow j hj).lt⟩
    go_wp2_with fail
    refine Calls.mono HRET.out ?_
    rintro e w6 ⟨rfl, M1, E1, V1, C1, hre⟩
    have HRE : Hid (RetE w5 w6 Wb n w.heap.size S M E M1 E1 V V1 C C1 last) := hre
    have hs6 := hre.fr.size
    have hX6 : ∀ q, w1.heap.size ≤ q → q < w5.heap.size → w6.heap[q]? = w5.heap[q]? := fun q h1 h2 => hre.fr.block q h2 (fun g => by
      rcases g with g | g | ⟨j, hj, g⟩
      · have := HX.out.2.1 q g; omega
      · omega
      · have := HSL.out j hj; omega)
    have HX6 : Hid (∀ q, w1.heap.size ≤ q → q < w5.heap.size → w6.heap[q]? = w5.heap[q]?) := hX6
    have hX0 : ∀ q, q < B0 → w6.heap[q]? = w.heap[q]? := fun q h1 => (hre.fr.block q (by omega) (fun g => by
      rcases g with g | g | ⟨j, hj, g⟩
      · have := HX.out.2.2.2 q g; omega
      · omega
      · have := HSL.out j hj; omega)).trans (HB05.out.block q (by omega))
    have HQ6 : Hid (w6.rowIs w1.heap.size 3 (pn + 1) (lenf Z pn)) := ((HQ2.out.of_block (HB23.out.block _ hs2)).of_block (HB35.out.block _ (by omega))).of_block (hX6 _ (Nat.le_refl _) (by omega))
    have hqM : ¬ M1 w1.heap.size := fun g => by
      rcases hre.mf _ g with g | g
      · have := HX.out.2.1 _ g; omega
      · omega
    have hqE : ¬ E1 w1.heap.size := fun g => by
      rcases hre.ef _ g with g | g | ⟨j, hj, g⟩
      · have := HX.out.2.2.1 _ g; omega
      · omega
      · have := HSL.out j hj; omega
    have hd1 : Dis M1 E1 := fun q h1 h2 => by
      rcases hre.mf q h1 with g | g
      · rcases hre.ef q h2 with e | e | ⟨j, hj, e⟩
        · exact HX.out.1 q g e
        · have := HX.out.2.1 q g; omega
        · have := HX.out.2.1 q g; have := HSL.out j hj; omega
      · rcases hre.ef q h2 with e | e | ⟨j, hj, e⟩
        · have := HX.out.2.2.1 q e; omega
        · omega
        · have := HSL.out j hj; omega
    have HRI : Hid _ := retInts2_any (qb := w1.heap.size) (n := pn) (cap := pc) (ao := ao) (Z := Z) hre.lm hre.le hp8 HQ6.out hqM hqE hd1 (by rw [(hre.cs 5 (by omega) (by decide) (by decide)).1]; have := HC5.out 5 (by omega); omega) (fun h => by
      obtain ⟨pb, po, e, hpb, hz⟩ := HZ.out h
      exact ⟨pb, po, e, fun i hi => (cell_same (hX0 pb hpb)).trans (hz i hi)⟩)
    clear hre hX6 hX0 hqM hqE hd1 HRET
    go_wp2_with fail
    refine Calls.mono HRI.out ?_
    rintro e w7 ⟨rfl, v', hlm7, hle7, hf7⟩
    have HOP : Hid (OpenE w w7 Wb n M E _ _ _ C _ last) := open_end HX.out.1 HX.out.2.1 HX.out.2.2.1 HB05.out HRE.out (fun j hj => ⟨(HSL.out j hj).1, by have := (HSL.out j hj).2; omega⟩) (by omega) ⟨hlt1, by omega⟩ hlm7 hle7 hf7
    have hs7 := hf7.size
    have hX7 : ∀ q, w2.heap.size ≤ q → q < w3.heap.size → w7.heap[q]? = w3.heap[q]? := fun q h1 h2 => ((hf7.block q (by omega) (fun g => by
      rcases g with g | g
      · rcases HRE.out.mf q g with e | e
        · have := HX.out.2.1 q e; omega
        · omega
      · omega)).trans (HX6.out q (by omega) (by omega))).trans (HB35.out.block q h2)
    obtain ⟨hlst, hown⟩ := HX3.out.lst hX7
    have HLS : Hid (LstN w7 m (.slice xo m xc)) := hlst
    have HOW : Hid (∀ q, (Value.slice xo m xc).ownBlock = some q → w2.heap.size ≤ q ∧ q < w3.heap.size) := hown
    have HM7 : Hid (∀ q, Nx M1 w6.heap.size w7.heap.size q → M q ∨ (w5.heap.size ≤ q ∧ q < w7.heap.size)) := fun q h => by
      rcases h with h | h
      · rcases HRE.out.mf q h with e | e
        · exact .inl e
        · exact .inr (by omega)
      · exact .inr (by omega)
    have HE7 : Hid (∀ q, (E1 q ∨ q = w1.heap.size) → E q ∨ (w.heap.size ≤ q ∧ q ≤ w1.heap.size)) := fun q h => by
      rcases h with h | h
      · rcases HRE.out.ef q h with e | e | ⟨j, hj, e⟩
        · exact .inl e
        · exact .inr (by omega)
        · have := HSL.out j hj; exact .inr (by omega)
      · exact .inr (by omega)
    have hknf : KNF w7 (.slice xo m xc) (Nx M1 w6.heap.size w7.heap.size) (fun q => E1 q ∨ q = w1.heap.size) := by
      refine ⟨fun q h => ?_, fun q h => ?_, HOP.out.dis, fun q h => ⟨?_, fun g => ?_, fun g => ?_⟩⟩
      · rcases HM7.out q h with e | e
        · have := HX.out.2.1 q e; omega
        · omega
      · rcases HE7.out q h with e | e
        · have := HX.out.2.2.1 q e; omega
        · omega
      · have := hown q h; omega
      · have := hown q h
        rcases HM7.out q g with e | e
        · have := HX.out.2.1 q e; omega
        · omega
      · have := hown q h
        rcases HE7.out q g with e | e
        · have := HX.out.2.2.1 q e; omega
        · omega
    have HKI : Hid _ := keepInts_any HOP.out.lm HOP.out.le hknf hlst (by omega) (by have := HLA.out.1; omega) HLA.out.2 (fun i hi => by have := HOP.out.cl i hi; have := HC5.out i hi; omega)
    clear hlm7 hle7 hf7 HRI hX7 hlst hown hknf HLS HM7 HE7 HX6
    go_wp2_with fail
    refine Calls.mono HKI.out ?_
    rintro e w8 ⟨rfl, M8, E8, V8, C8, hki⟩
    have HMV : Hid (MV w w8 Wb (n + 5) M E M8 E8 V8 C C8 last (last - 1)) := keep_end HOP.out hki (fun q hq => by have := HOW.out q hq; omega)
    clear hki HKI
    have hee : (Er == Er) = true := by simp
    have haa : (Ax == Ax) = true := by simp
    go_wp2
    go_ret
    exact ⟨rfl, _, _, _, _, _, HMV.out⟩

end Go.Proofs.YtdabcflpcklfiaaGreat

/- The law All: Assign and Check are asked. -/
namespace Go.Proofs.YtdabcflpcklfiaaGreat
open Go.RowKit Cad

set_option maxRecDepth 100000 in
set_option maxHeartbeats 8000000 in
theorem assigns_any {B0 b off n cap Wb : Nat} {tO : Option Addr} {T : TD} {w : World} {M E : Nat → Prop} {V : Nat → Value} {C : Nat → List Value} {last : Int} (hl : LW B0 Wb w M E V C last) (hC5 : ∀ i, i < 8 → (C i).length ≤ 100000000) (h0 : -1000000000 ≤ last) (h1 : last ≤ 0) (hnn : n ≤ 100000000) (ha : TArg w B0 b n tO off T) :
    Calls Tryz.prog 14 #[.pointer (some ⟨Wb, 0, none⟩), .slice tO n cap] w fun e w' => e = .returned (.bool true) ∧ ∃ M' E' V' C' last', MV w w' Wb (n + 5) M E M' E' V' C C' last last' := by
  have hB0 := hl.bb
  obtain ⟨Er, Ax, m, hout, hm8⟩ := outcS_ex T n
  have HO : Hid (OutcS T n Er Ax m) := hout
  have HLT : Hid _ := lent_all (cap := cap) ha hB0
  have hn8 := ha.n8
  have HX : Hid (Dis M E ∧ Lo M w.heap.size ∧ Lo E w.heap.size ∧ ∀ q, M q → B0 ≤ q) := ⟨hl.dis, hl.loM, hl.loE, hl.mb⟩
  have HA : Hid (TArg w B0 b n tO off T) := ha
  have hret := fun (w1 w5 : World) (S : Nat → Nat) (v : Value) (h1 : LentInv w.heap.size n n T S v w w1) (h2 : Below w1.heap.size w1 w5) => ret_gen (cap := cap) hl.lm hl.le hl.dis hl.loM hl.loE hl.mb hC5 ha hB0 h1 h2
  have HRT : Hid _ := hret
  have HC5 : Hid (∀ i, i < 8 → (C i).length ≤ 100000000) := hC5
  have HLA : Hid (-1000000000 ≤ last ∧ last ≤ 0) := ⟨h0, h1⟩
  clear hC5 ha hret hl hout h0 h1
  go_enter Tryz.func14, Tryz.ntmps14
  go_wp2_with fail
  refine Calls.mono HLT.out ?_
  rintro e w1 ⟨S, v, rfl, hlent⟩
  obtain ⟨vo, vc, hvs⟩ := own_shapeK hlent.own
  subst hvs
  have HLE : Hid (LentInv w.heap.size n n T S (.slice vo n vc) w w1) := hlent
  have hlt1 : w.heap.size < w1.heap.size := hlent.lrow.lt
  have HB1 : Hid (Below w.heap.size w w1) := hlent.below
  have HTL : Hid (TasksAt w1 w.heap.size 0 n (T.lent S)) := lent_at hlent HA.out.l8
  clear hlent HLT
  have HC3 : Hid (∀ wx, Below w1.heap.size w1 wx → Calls Tryz.prog 39 #[.slice (some ⟨w.heap.size, 0, none⟩) n (n + 1)] wx fun e w' => ∃ xo xc X, e = .returned (.tuple #[.slice xo m xc, .int .i64 Er, .int .i64 Ax]) ∧ True ∧ Hid (OutX w1.heap.size w' m (.slice xo m xc) X ∧ (1 ≤ m → Cad.PrioB X n ∧ ∀ i, i < n → Low T n (fun q => if q < n then decide (X i ≤ X q) else false) i) ∧ Below w1.heap.size w1 w')) := by
    intro wx hbx
    have hz := hbx.size
    refine Calls.mono (code_asgX w.heap.size 0 n (n + 1) (T.lent S) Er Ax m wx (by omega) (outcS_lent HO.out) (by omega) (TasksAt.below HTL.out (by omega) hbx)) ?_
    rintro e w' ⟨xo, xc, X, he, hx, hX, hb⟩
    refine ⟨xo, xc, X, he, trivial, ?_, hX, hbx.trans (hb.mono hz)⟩
    rcases hx with g | ⟨g, e1, e2, e3⟩
    · exact .inl g
    · exact .inr ⟨g, e1, by omega, e3⟩
  go_wp2_with fail
  first
    | (refine Calls.mono (HC3.out _ (Below.refl _ _)) ?_
       rintro e w3 ⟨xo, xc, X, rfl, _, hb3⟩)
    | (go_region_held (fun _ => True) (first | go_keep | trivial) (first | (go_at_call 39; refine Calls.mono (HC3.out _ (below_drewM (Below.refl _ _) _)) ?_; rintro e w3 ⟨xo, xc, X, rfl, _, hb3⟩)))
  all_goals
    have HX3 : Hid (OutX w1.heap.size w3 m (.slice xo m xc) X) := hb3.out.1
    have HCX : Hid (1 ≤ m → Cad.PrioB X n ∧ ∀ i, i < n → Low T n (fun q => if q < n then decide (X i ≤ X q) else false) i) := hb3.out.2.1
    have HB13 : Hid (Below w1.heap.size w1 w3) := hb3.out.2.2
    have HB03 : Hid (Below w.heap.size w w3) := HB1.out.trans (HB13.out.mono (by omega))
    have hs3 := HB13.out.size
    clear hb3 HC3
    have HRA : Hid _ := ref_asgN (cap := cap) (HA.out.at (HB03.out.mono hB0) hB0) (by omega) HO.out
    go_wp2_with fail
    refine Calls.mono HRA.out ?_
    rintro e w4 ⟨yo, yc, Y, rfl, hyi, hY, hb4⟩
    have HB34 : Hid (Below w3.heap.size w3 w4) := hb4
    have hs4 := hb4.size
    have HYI : Hid (1 ≤ m → ∃ b off, yo = some ⟨b, off, none⟩ ∧ IntsAt w4 b off m X) := fun h => by
      obtain ⟨yb, yf, e, hz⟩ := hyi h
      exact ⟨yb, yf, e, fun i hi => by rw [outcS_same HO.out HCX.out hY i hi]; exact hz i hi⟩
    have HXI : Hid (1 ≤ m → ∃ b off, xo = some ⟨b, off, none⟩ ∧ IntsAt w4 b off m X) := HX3.out.ints hb4
    clear hyi hY hb4 HRA
    go_wp2_with fail
    refine Calls.mono (sameInts_any xo yo m _ yc X _ (by omega) HXI.out HYI.out) ?_
    rintro e w5 ⟨rfl, k5, hw5⟩
    have HB45 : Hid (Below w4.heap.size w4 w5) := by rw [hw5]; exact below_drewN (Below.refl _ _) _
    clear hw5 HXI HYI
    have hs5 := HB45.out.size
    have HB35 : Hid (Below w3.heap.size w3 w5) := HB34.out.trans (HB45.out.mono hs4)
    have HB15 : Hid (Below w1.heap.size w1 w5) := HB13.out.trans (HB35.out.mono hs3)
    have HB05 : Hid (Below w.heap.size w w5) := HB1.out.trans (HB15.out.mono (by omega))
    have HRET : Hid _ := HRT.out w1 w5 S (.slice vo n vc) HLE.out HB15.out
    have HSL : Hid (∀ j, j < n → w.heap.size < S j ∧ S j < w1.heap.size) := fun j hj => ⟨HLE.out.sgt j hj, (HLE.out.srow j hj).lt⟩
    go_wp2_with fail
    refine Calls.mono HRET.out ?_
    rintro e w6 ⟨rfl, M1, E1, V1, C1, hre⟩
    have HRE : Hid (RetE w5 w6 Wb n w.heap.size S M E M1 E1 V V1 C C1 last) := hre
    have hs6 := hre.fr.size
    have hX6 : ∀ q, w1.heap.size ≤ q → q < w3.heap.size → w6.heap[q]? = w3.heap[q]? := fun q h1 h2 => (hre.fr.block q (by omega) (fun g => by
      rcases g with g | g | ⟨j, hj, g⟩
      · have := HX.out.2.1 q g; omega
      · omega
      · have := HSL.out j hj; omega)).trans (HB35.out.block q h2)
    have HOP : Hid (OpenE w w6 Wb n M E M1 E1 V1 C C1 last) := ret_open HX.out.1 HX.out.2.1 HX.out.2.2.1 HB05.out hre (fun j hj => ⟨(HSL.out j hj).1, by have := (HSL.out j hj).2; omega⟩) (by omega)
    obtain ⟨hlst, hown⟩ := HX3.out.lst hX6
    have HOW : Hid (∀ q, (Value.slice xo m xc).ownBlock = some q → w1.heap.size ≤ q ∧ q < w3.heap.size) := hown
    have hknf : KNF w6 (.slice xo m xc) M1 E1 := by
      refine ⟨fun q h => ?_, fun q h => ?_, HOP.out.dis, fun q h => ⟨?_, fun g => ?_, fun g => ?_⟩⟩
      · rcases HRE.out.mf q h with e | e
        · have := HX.out.2.1 q e; omega
        · omega
      · rcases HRE.out.ef q h with e | e | ⟨j, hj, e⟩
        · have := HX.out.2.2.1 q e; omega
        · omega
        · have := HSL.out j hj; omega
      · have := hown q h; omega
      · have := hown q h
        rcases HRE.out.mf q g with e | e
        · have := HX.out.2.1 q e; omega
        · omega
      · have := hown q h
        rcases HRE.out.ef q g with e | e | ⟨j, hj, e⟩
        · have := HX.out.2.2.1 q e; omega
        · omega
        · have := HSL.out j hj; omega
    have HKI : Hid _ := keepInts_any HOP.out.lm HOP.out.le hknf hlst (by omega) (by have := HLA.out.1; omega) HLA.out.2 (fun i hi => by have := HOP.out.cl i hi; have := HC5.out i hi; omega)
    clear hre hX6 hlst hown hknf HRET
    go_wp2_with fail
    refine Calls.mono HKI.out ?_
    rintro e w8 ⟨rfl, M8, E8, V8, C8, hki⟩
    have HMV : Hid (MV w w8 Wb (n + 5) M E M8 E8 V8 C C8 last (last - 1)) := keep_end HOP.out hki (fun q hq => by have := HOW.out q hq; omega)
    clear hki HKI
    have hee : (Er == Er) = true := by simp
    have haa : (Ax == Ax) = true := by simp
    go_wp2
    go_ret
    exact ⟨rfl, _, _, _, _, _, HMV.out⟩

set_option maxRecDepth 100000 in
set_option maxHeartbeats 8000000 in
theorem checks_any {B0 b off n cap Wb : Nat} {tO : Option Addr} {T : TD} {w : World} {M E : Nat → Prop} {V : Nat → Value} {C : Nat → List Value} {last : Int} (hl : LW B0 Wb w M E V C last) (hC5 : ∀ i, i < 8 → (C i).length ≤ 100000000) (ha : TArg w B0 b n tO off T) :
    Calls Tryz.prog 15 #[.pointer (some ⟨Wb, 0, none⟩), .slice tO n cap] w fun e w' => e = .returned (.bool true) ∧ ∃ M' E' V' C' last', MV w w' Wb (n + 1) M E M' E' V' C C' last last' := by
  have hB0 := hl.bb
  obtain ⟨Er, Ax, hout⟩ : ∃ x y, chkR T n = (x, y) := ⟨_, _, rfl⟩
  have HO : Hid (chkR T n = (Er, Ax)) := hout
  have HLT : Hid _ := lent_all (cap := cap) ha hB0
  have hn8 := ha.n8
  have HX : Hid (Dis M E ∧ Lo M w.heap.size ∧ Lo E w.heap.size ∧ ∀ q, M q → B0 ≤ q) := ⟨hl.dis, hl.loM, hl.loE, hl.mb⟩
  have HA : Hid (TArg w B0 b n tO off T) := ha
  have hret := fun (w1 w5 : World) (S : Nat → Nat) (v : Value) (h1 : LentInv w.heap.size n n T S v w w1) (h2 : Below w1.heap.size w1 w5) => ret_gen (cap := cap) hl.lm hl.le hl.dis hl.loM hl.loE hl.mb hC5 ha hB0 h1 h2
  have HRT : Hid _ := hret
  clear hC5 ha hret hl hout
  go_enter Tryz.func15, Tryz.ntmps15
  go_wp2_with fail
  refine Calls.mono HLT.out ?_
  rintro e w1 ⟨S, v, rfl, hlent⟩
  obtain ⟨vo, vc, hvs⟩ := own_shapeK hlent.own
  subst hvs
  have HLE : Hid (LentInv w.heap.size n n T S (.slice vo n vc) w w1) := hlent
  have hlt1 : w.heap.size < w1.heap.size := hlent.lrow.lt
  have HB1 : Hid (Below w.heap.size w w1) := hlent.below
  have HTL : Hid (TasksAt w1 w.heap.size 0 n (T.lent S)) := lent_at hlent HA.out.l8
  clear hlent HLT
  have HC3 : Hid (∀ wx, Below w1.heap.size w1 wx → Calls Tryz.prog 41 #[.slice (some ⟨w.heap.size, 0, none⟩) n (n + 1)] wx fun e w' => e = .returned (.tuple #[.int .i64 Er, .int .i64 Ax]) ∧ True ∧ Hid (Below w1.heap.size w1 w')) := by
    intro wx hbx
    have hz := hbx.size
    refine Calls.mono (cad_all w.heap.size 0 n (n + 1) (T.lent S) wx Er Ax HO.out (by omega) (by omega) (TasksAt.below HTL.out (by omega) hbx)) ?_
    rintro e w' ⟨he, hb⟩
    exact ⟨he, trivial, hbx.trans (hb.mono hz)⟩
  go_wp2_with fail
  first
    | (refine Calls.mono (HC3.out _ (Below.refl _ _)) ?_
       rintro e w3 ⟨rfl, _, hb3⟩)
    | (go_region_held (fun _ => True) (first | go_keep | trivial) (first | (go_at_call 41; refine Calls.mono (HC3.out _ (below_drewM (Below.refl _ _) _)) ?_; rintro e w3 ⟨rfl, _, hb3⟩)))
  all_goals
    have HB13 : Hid (Below w1.heap.size w1 w3) := hb3.out
    have HB03 : Hid (Below w.heap.size w w3) := HB1.out.trans (HB13.out.mono (by omega))
    have hs3 := HB13.out.size
    clear hb3 HC3
    have HRA : Hid _ := ref_chkN (cap := cap) (HA.out.at (HB03.out.mono hB0) hB0) (by omega) HO.out
    go_wp2_with fail
    refine Calls.mono HRA.out ?_
    rintro e w5 ⟨rfl, hb5⟩
    have HB35 : Hid (Below w3.heap.size w3 w5) := hb5
    have hs5 := hb5.size
    clear hb5 HRA
    have HB15 : Hid (Below w1.heap.size w1 w5) := HB13.out.trans (HB35.out.mono hs3)
    have HB05 : Hid (Below w.heap.size w w5) := HB1.out.trans (HB15.out.mono (by omega))
    have HRET : Hid _ := HRT.out w1 w5 S (.slice vo n vc) HLE.out HB15.out
    have HSL : Hid (∀ j, j < n → w.heap.size < S j ∧ S j < w1.heap.size) := fun j hj => ⟨HLE.out.sgt j hj, (HLE.out.srow j hj).lt⟩
    go_wp2_with fail
    refine Calls.mono HRET.out ?_
    rintro e w6 ⟨rfl, M1, E1, V1, C1, hre⟩
    have HMV : Hid (MV w w6 Wb (n + 1) M E M1 E1 V1 C C1 last last) := (ret_open HX.out.1 HX.out.2.1 HX.out.2.2.1 HB05.out hre (fun j hj => ⟨(HSL.out j hj).1, by have := (HSL.out j hj).2; omega⟩) (by omega)).mv
    clear hre HRET
    have hee : (Er == Er) = true := by simp
    have haa : (Ax == Ax) = true := by simp
    go_wp2
    go_ret
    exact ⟨rfl, _, _, _, _, _, HMV.out⟩

end Go.Proofs.YtdabcflpcklfiaaGreat

/- The law All, walked. -/
namespace Go.Proofs.YtdabcflpcklfiaaGreat
open Go.RowKit Cad

theorem analyzes_al {B0 b off n cap Wb pn pc r s k : Nat} {tO ao : Option Addr} {T : TD} {Z : Nat → Int} {w0 w : World} (h : AL B0 r s k Wb w0 w) (hr : r ≤ 100000000) (hs : s ≤ 1000) (hn : n ≤ 100000000) (ha0 : TArg w0 B0 b n tO off T) (hp0 : PArg w0 B0 pn ao Z) :
    Calls Tryz.prog 13 #[.pointer (some ⟨Wb, 0, none⟩), .slice tO n cap, .slice ao pn pc] w fun e w' => e = .returned (.bool true) ∧ AL B0 (r + (n + 5)) (s + 1) k Wb w0 w' := by
  obtain ⟨hbel, hB00⟩ := h.below
  obtain ⟨sb, xb, yb, S, FK, FR, M, E, V, C, last, hps, hl, hc, h0, h1⟩ := h
  refine Calls.mono (analyzes_any hl (fun i hi => Nat.le_trans (hc i hi) hr) (by omega) h1 hn (ha0.at hbel hB00) (hp0.at hbel)) ?_
  rintro e w' ⟨he, M', E', V', C', last', hm⟩
  exact ⟨he, AL.move hps hl hc h0 h1 hm⟩

theorem assigns_al {B0 b off n cap Wb r s k : Nat} {tO : Option Addr} {T : TD} {w0 w : World} (h : AL B0 r s k Wb w0 w) (hr : r ≤ 100000000) (hs : s ≤ 1000) (hn : n ≤ 100000000) (ha0 : TArg w0 B0 b n tO off T) :
    Calls Tryz.prog 14 #[.pointer (some ⟨Wb, 0, none⟩), .slice tO n cap] w fun e w' => e = .returned (.bool true) ∧ AL B0 (r + (n + 5)) (s + 1) k Wb w0 w' := by
  obtain ⟨hbel, hB00⟩ := h.below
  obtain ⟨sb, xb, yb, S, FK, FR, M, E, V, C, last, hps, hl, hc, h0, h1⟩ := h
  refine Calls.mono (assigns_any hl (fun i hi => Nat.le_trans (hc i hi) hr) (by omega) h1 hn (ha0.at hbel hB00)) ?_
  rintro e w' ⟨he, M', E', V', C', last', hm⟩
  exact ⟨he, AL.move hps hl hc h0 h1 hm⟩

theorem checks_al {B0 b off n cap Wb r s k : Nat} {tO : Option Addr} {T : TD} {w0 w : World} (h : AL B0 r s k Wb w0 w) (hr : r ≤ 100000000) (ha0 : TArg w0 B0 b n tO off T) :
    Calls Tryz.prog 15 #[.pointer (some ⟨Wb, 0, none⟩), .slice tO n cap] w fun e w' => e = .returned (.bool true) ∧ AL B0 (r + (n + 1)) (s + 1) k Wb w0 w' := by
  obtain ⟨hbel, hB00⟩ := h.below
  obtain ⟨sb, xb, yb, S, FK, FR, M, E, V, C, last, hps, hl, hc, h0, h1⟩ := h
  refine Calls.mono (checks_any hl (fun i hi => Nat.le_trans (hc i hi) hr) (ha0.at hbel hB00)) ?_
  rintro e w' ⟨he, M', E', V', C', last', hm⟩
  exact ⟨he, AL.move hps hl hc h0 h1 hm⟩

theorem play_al (hS : SortC) {B0 Wb b off ns cap r s k : Nat} {w0 w : World} {X : OD} {ao : Option Addr} (h : AL B0 r s k Wb w0 w) (hr : r ≤ 100000000) (hs : s ≤ 1000) (hk : k ≤ 2) (hns : ns ≤ 2000000) (hao : 1 ≤ ns → ao = some ⟨b, off, none⟩ ∧ b < B0) (hX : OpsAt w0 B0 b off ns X) :
    Calls Tryz.prog 7 #[.pointer (some ⟨Wb, 0, none⟩), .slice ao ns cap] w fun e w' => e = .returned (.bool true) ∧ Below B0 w0 w' := by
  obtain ⟨_, hB0⟩ := h.below
  obtain ⟨sb, xb, yb, S, hpx⟩ := h.px (ns := ns + 24) hr hs (by omega)
  have fin : ∀ k w'', PX B0 0 k Wb w0 w'' sb xb yb S → Below B0 w0 w'' := fun k w'' h => by
    obtain ⟨m, FK, FR, M, E, V, C, last, hp, _, _⟩ := h
    exact hp.below
  by_cases hk0 : k = 0
  · subst hk0
    exact Calls.mono (play_0 hpx) (fun e w'' h => ⟨h.1, fin _ _ h.2⟩)
  · by_cases hk1 : k = 1
    · subst hk1
      exact Calls.mono (play_1 hS hpx (by omega) hao hB0 hX) (fun e w'' h => ⟨h.1, fin _ _ h.2⟩)
    · obtain rfl : k = 2 := by omega
      exact Calls.mono (play_2 hS hpx (by omega) hao hB0 hX) (fun e w'' h => ⟨h.1, fin _ _ h.2⟩)

set_option maxRecDepth 100000 in
set_option maxHeartbeats 4000000 in
theorem all_any (hS : SortC) {b off n cap pn pc b2 off2 n2 cap2 pn2 pc2 sb so ns sc : Nat} {tO ao tO2 ao2 oO : Option Addr} {T T2 : TD} {Z Z2 : Nat → Int} {X : OD} {W : World} (ha : TArg W W.heap.size b n tO off T) (hp : PArg W W.heap.size pn ao Z) (ha2 : TArg W W.heap.size b2 n2 tO2 off2 T2) (hp2 : PArg W W.heap.size pn2 ao2 Z2) (hn : n ≤ 2000000) (hn2 : n2 ≤ 2000000) (hns : ns ≤ 2000000) (hoO : 1 ≤ ns → oO = some ⟨sb, so, none⟩ ∧ sb < W.heap.size) (hX : OpsAt W W.heap.size sb so ns X) :
    Calls Tryz.prog 5 #[.slice tO n cap, .slice ao pn pc, .slice tO2 n2 cap2, .slice ao2 pn2 pc2, .slice oO ns sc] W fun e w' => e = .returned (.bool true) ∧ Below W.heap.size W w' := by
  obtain ⟨W1, hW1⟩ : ∃ W1, W1 = W.alloc (.cells #[.slice none 0 0, .slice none 0 0, .slice none 0 0, .slice none 0 0, .slice none 0 0, .slice none 0 0, .slice none 0 0, .slice none 0 0, .int .i64 0] 32) := ⟨_, rfl⟩
  have hrow := world_row W
  rw [← hW1] at hrow
  have hb1 : Below W.heap.size W W1 := by rw [hW1]; exact below_alloc1 _ _
  have HA : Hid (TArg W1 W.heap.size b n tO off T) := ha.at hb1 (Nat.le_refl _)
  have HP : Hid (PArg W1 W.heap.size pn ao Z) := hp.at hb1
  have HA2 : Hid (TArg W1 W.heap.size b2 n2 tO2 off2 T2) := ha2.at hb1 (Nat.le_refl _)
  have HP2 : Hid (PArg W1 W.heap.size pn2 ao2 Z2) := hp2.at hb1
  have HXX : Hid (OpsAt W1 W.heap.size sb so ns X) := fun i hi => by
    obtain ⟨_, hb⟩ := hoO (by omega)
    obtain ⟨x0, x1, x2, x3, x4, x5, x6⟩ := hX i hi
    refine ⟨(hb1.cell (p := ⟨sb, so + i * 5, none⟩) hb).trans x0, (hb1.cell (p := ⟨sb, so + i * 5 + 1, none⟩) hb).trans x1, (hb1.cell (p := ⟨sb, so + i * 5 + 2, none⟩) hb).trans x2, (hb1.cell (p := ⟨sb, so + i * 5 + 3, none⟩) hb).trans x3, (hb1.cell (p := ⟨sb, so + i * 5 + 4, none⟩) hb).trans x4, x5, fun h => ?_⟩
    obtain ⟨rb, rf, e1, e2, e3⟩ := x6 h
    exact ⟨rb, rf, e1, e2, IntsAt.below e3 e2 hb1⟩
  have HOO : Hid (1 ≤ ns → oO = some ⟨sb, so, none⟩ ∧ sb < W.heap.size) := hoO
  have HB1 : Hid (Below W.heap.size W W1) := hb1
  have HAL : Hid (AL W.heap.size 0 0 0 W.heap.size W1 W1) := al_start hrow (Nat.le_refl _) hb1.size
  have HO1 : Hid _ := opens_al (cap := cap) (pc := pc) HAL.out (by omega) HA.out HP.out
  have HW1 : Hid (W1 = W.alloc (.cells #[.slice none 0 0, .slice none 0 0, .slice none 0 0, .slice none 0 0, .slice none 0 0, .slice none 0 0, .slice none 0 0, .slice none 0 0, .int .i64 0] 32)) := hW1
  clear hW1 hrow ha hp ha2 hp2 hX hoO hb1
  go_enter Tryz.func5, Tryz.ntmps5
  go_wp2_with fail
  rw [← HW1.out]
  refine Calls.mono HO1.out ?_
  rintro e w1 ⟨rfl, k1, hk1, hal1⟩
  have HO2 : Hid _ := opens_al (cap := cap2) (pc := pc2) hal1 (by omega) HA2.out HP2.out
  clear hal1 HW1 HO1
  go_wp2_with fail
  refine Calls.mono HO2.out ?_
  rintro e w2 ⟨rfl, k2, hk2, hal2⟩
  have HO3 : Hid _ := analyzes_al (cap := cap) (pc := pc2) hal2 (by omega) (by omega) (by omega) HA.out HP2.out
  clear hal2 HO2
  go_wp2_with fail
  refine Calls.mono HO3.out ?_
  rintro e w3 ⟨rfl, hal3⟩
  have HO4 : Hid _ := analyzes_al (cap := cap2) (pc := pc2) hal3 (by omega) (by omega) (by omega) HA2.out HP2.out
  clear hal3 HO3
  go_wp2_with fail
  refine Calls.mono HO4.out ?_
  rintro e w4 ⟨rfl, hal4⟩
  have HO5 : Hid _ := assigns_al (cap := cap) hal4 (by omega) (by omega) (by omega) HA.out
  clear hal4 HO4
  go_wp2_with fail
  refine Calls.mono HO5.out ?_
  rintro e w5 ⟨rfl, hal5⟩
  have HO6 : Hid _ := checks_al (cap := cap2) hal5 (by omega) HA2.out
  clear hal5 HO5
  go_wp2_with fail
  refine Calls.mono HO6.out ?_
  rintro e w6 ⟨rfl, hal6⟩
  have HO7 : Hid _ := play_al hS (cap := sc) hal6 (by omega) (by omega) (by omega) hns HOO.out HXX.out
  clear hal6 HO6
  go_wp2_with fail
  refine Calls.mono HO7.out ?_
  rintro e w7 ⟨rfl, hb7⟩
  have HB7 : Hid (Below W.heap.size W w7) := HB1.out.trans hb7
  clear hb7 HO7
  go_wp2
  go_ret
  exact ⟨rfl, HB7.out⟩

end Go.Proofs.YtdabcflpcklfiaaGreat

/- Two records are compared. -/
namespace Go.Proofs.YtdabcflpcklfiaaGreat
open Go.RowKit Cad

set_option maxHeartbeats 400000 in
theorem isNaN_any (x : Int) (w : World) : Calls Tryz.prog 120 #[.int .i64 x] w fun e w' => e = .returned (.bool false) ∧ w' = w := by
  have hx : (x != x) = false := by simp
  go_enter Tryz.func120, Tryz.ntmps120
  go_wp2
  go_ret
  exact ⟨rfl, rfl⟩

def cmpI (x y : Int) : Int := if x < y then -1 else if y < x then 1 else 0

set_option maxHeartbeats 400000 in
theorem compare_any (x y : Int) (w : World) : Calls Tryz.prog 91 #[.int .i64 x, .int .i64 y] w fun e w' => e = .returned (.int .i64 (cmpI x y)) ∧ w' = w := by
  by_cases h1 : x < y
  · have b1 : decide (x < y) = true := by simpa using h1
    have HE : Hid (cmpI x y = -1) := by unfold Hid cmpI; rw [if_pos h1]
    go_enter Tryz.func91, Tryz.ntmps91
    go_wp2_with (go_at_call 120; refine (isNaN_any _ _).mono ?_; rintro e w' ⟨rfl, rfl⟩)
    go_ret
    exact ⟨by rw [HE.out]; rfl, rfl⟩
  · have b1 : decide (x < y) = false := by simpa using h1
    by_cases h2 : y < x
    · have b2 : decide (y < x) = true := by simpa using h2
      have HE : Hid (cmpI x y = 1) := by unfold Hid cmpI; rw [if_neg h1, if_pos h2]
      go_enter Tryz.func91, Tryz.ntmps91
      go_wp2_with (go_at_call 120; refine (isNaN_any _ _).mono ?_; rintro e w' ⟨rfl, rfl⟩)
      go_ret
      exact ⟨by rw [HE.out]; rfl, rfl⟩
    · have b2 : decide (y < x) = false := by simpa using h2
      have HE : Hid (cmpI x y = 0) := by unfold Hid cmpI; rw [if_neg h1, if_neg h2]
      go_enter Tryz.func91, Tryz.ntmps91
      go_wp2_with (go_at_call 120; refine (isNaN_any _ _).mono ?_; rintro e w' ⟨rfl, rfl⟩)
      go_ret
      exact ⟨by rw [HE.out]; rfl, rfl⟩

def Tryz.sortL_ren : Go.Shelf.Ren := ⟨fun | 6 => 89 | 15 => 119 | 14 => 118 | 28 => 144 | 29 => 145 | 20 => 136 | 21 => 137 | 22 => 138 | 23 => 139 | 24 => 140 | 25 => 141 | 26 => 142 | 27 => 143 | 46 => 147 | 47 => 148 | 48 => 149 | 49 => 150 | 50 => 151 | 57 => 153 | n => n, fun | 22 => 140 | 24 => 158 | 25 => 166 | 3 => 3 | 39 => 192 | 0 => 0 | 53 => 107 | 55 => 212 | 4 => 4 | 46 => 205 | 45 => 204 | 50 => 72 | 5 => 5 | 9 => 9 | 66 => 213 | 70 => 217 | 76 => 220 | 77 => 221 | n => n, fun | n => n⟩
theorem Tryz.sortL : Go.Proofs.SlLaysF0.n6 Tryz.prog Tryz.sortL_ren := {
  mixed := by kernel_rfl
  f6 := ⟨Tryz.f89.name, by decide, Tryz.func89.trans (congrArg some (by kernel_rfl))⟩
  f14 := ⟨Tryz.f118.name, by decide, Tryz.func118.trans (congrArg some (by kernel_rfl))⟩
  f15 := Tryz.func119.trans (congrArg some (by kernel_rfl))
  f20 := ⟨Tryz.f136.name, by decide, Tryz.func136.trans (congrArg some (by kernel_rfl))⟩
  f21 := ⟨Tryz.f137.name, by decide, Tryz.func137.trans (congrArg some (by kernel_rfl))⟩
  f22 := ⟨Tryz.f138.name, by decide, Tryz.func138.trans (congrArg some (by kernel_rfl))⟩
  f23 := ⟨Tryz.f139.name, by decide, Tryz.func139.trans (congrArg some (by kernel_rfl))⟩
  f24 := ⟨Tryz.f140.name, by decide, Tryz.func140.trans (congrArg some (by kernel_rfl))⟩
  f25 := ⟨Tryz.f141.name, by decide, Tryz.func141.trans (congrArg some (by kernel_rfl))⟩
  f26 := ⟨Tryz.f142.name, by decide, Tryz.func142.trans (congrArg some (by kernel_rfl))⟩
  f27 := ⟨Tryz.f143.name, by decide, Tryz.func143.trans (congrArg some (by kernel_rfl))⟩
  f28 := Tryz.func144.trans (congrArg some (by kernel_rfl))
  f29 := Tryz.func145.trans (congrArg some (by kernel_rfl))
  f46 := ⟨Tryz.f147.name, by decide, Tryz.func147.trans (congrArg some (by kernel_rfl))⟩
  f47 := Tryz.func148.trans (congrArg some (by kernel_rfl))
  f48 := Tryz.func149.trans (congrArg some (by kernel_rfl))
  f49 := ⟨Tryz.f150.name, by decide, Tryz.func150.trans (congrArg some (by kernel_rfl))⟩
  f50 := ⟨Tryz.f151.name, by decide, Tryz.func151.trans (congrArg some (by kernel_rfl))⟩
  f57 := ⟨Tryz.f153.name, by decide, Tryz.func153.trans (congrArg some (by kernel_rfl))⟩
  t0 := Tryz.underlying0
  a0 := Tryz.isAgg0
  z0 := Tryz.sizeOf0
  v0 := Tryz.zeroValue0
  t3 := Tryz.underlying3
  a3 := Tryz.isAgg3
  z3 := Tryz.sizeOf3
  v3 := Tryz.zeroValue3
  t4 := Tryz.underlying4
  a4 := Tryz.isAgg4
  z4 := Tryz.sizeOf4
  v4 := Tryz.zeroValue4
  t5 := Tryz.underlying5
  a5 := Tryz.isAgg5
  z5 := Tryz.sizeOf5
  v5 := Tryz.zeroValue5
  t9 := Tryz.underlying9
  a9 := Tryz.isAgg9
  z9 := Tryz.sizeOf9
  v9 := Tryz.zeroValue9
  t22 := Tryz.underlying140
  a22 := Tryz.isAgg140
  z22 := Tryz.sizeOf140
  v22 := Tryz.zeroValue140
  t25 := Tryz.underlying166
  a25 := Tryz.isAgg166
  z25 := Tryz.sizeOf166
  v25 := Tryz.zeroValue166
  t39 := Tryz.underlying192
  a39 := Tryz.isAgg192
  z39 := Tryz.sizeOf192
  v39 := Tryz.zeroValue192
  t45 := Tryz.underlying204
  a45 := Tryz.isAgg204
  z45 := Tryz.sizeOf204
  v45 := Tryz.zeroValue204
  t46 := Tryz.underlying205
  a46 := Tryz.isAgg205
  z46 := Tryz.sizeOf205
  v46 := Tryz.zeroValue205
  t50 := Tryz.underlying72
  a50 := Tryz.isAgg72
  z50 := Tryz.sizeOf72
  v50 := Tryz.zeroValue72
  t53 := Tryz.underlying107
  a53 := Tryz.isAgg107
  z53 := Tryz.sizeOf107
  v53 := Tryz.zeroValue107
  t55 := Tryz.underlying212
  a55 := Tryz.isAgg212
  z55 := Tryz.sizeOf212
  v55 := Tryz.zeroValue212
  t66 := Tryz.underlying213
  a66 := Tryz.isAgg213
  z66 := Tryz.sizeOf213
  v66 := Tryz.zeroValue213
  t70 := Tryz.underlying217
  a70 := Tryz.isAgg217
  z70 := Tryz.sizeOf217
  v70 := Tryz.zeroValue217
  t76 := Tryz.underlying220
  a76 := Tryz.isAgg220
  z76 := Tryz.sizeOf220
  v76 := Tryz.zeroValue220
  t77 := Tryz.underlying221
  a77 := Tryz.isAgg221
  z77 := Tryz.sizeOf221
  v77 := Tryz.zeroValue221 }

/-- How records are compared. -/
def cfR (x y : Rc) : Int := cmpI x.ord y.ord

theorem ltR (x y : Rc) : ltOf cfR x y = decide (x.ord < y.ord) := by
  unfold ltOf cfR cmpI
  by_cases h1 : x.ord < y.ord
  · simp [h1]
  · by_cases h2 : y.ord < x.ord <;> simp [h1, h2]

theorem swoR : Go.Sort.SWO (ltOf cfR) where
  irrefl x := by rw [ltR]; simp
  trans x y z h1 h2 := by rw [ltR] at *; simp at *; omega
  ntrans x y z h1 h2 := by rw [ltR] at *; simp at *; omega

set_option maxHeartbeats 1000000 in
theorem closure_any (x y : Rc) (W : World) : Calls Tryz.prog 90 #[.agg (recC x).toArray, .agg (recC y).toArray] W fun e w' => e = .returned (.int .i64 (cfR x y)) ∧ ∃ q os', w' = Go.Sort.grow (W.drewN q) os' := by
  have hcon := fun W' => compare_any x.ord y.ord W'
  show Calls Tryz.prog 90 #[.agg #[.int .i64 x.task, .int .i64 x.arr, .int .i64 x.rel, .int .i64 x.done, .int .i64 x.left, .int .i64 x.ord], .agg #[.int .i64 y.task, .int .i64 y.arr, .int .i64 y.rel, .int .i64 y.done, .int .i64 y.left, .int .i64 y.ord]] W _
  unfold cfR
  generalize cmpI x.ord y.ord = r at hcon ⊢
  go_enter Tryz.func90, Tryz.ntmps90
  go_wp2_with (go_at_call 91; refine (hcon _).mono ?_; rintro e w' ⟨rfl, rfl⟩)
  go_ret
  exact ⟨rfl, 0, _, by rw [Go.Sort.alloc_eq_grow, Go.Sort.alloc_eq_grow, Go.Sort.grow_grow]; rfl⟩

@[reducible] def rcInh : Inhabited Rc := ⟨⟨0, 0, 0, 0, 0, 0⟩⟩

theorem recC_one (x : Rc) : ∀ v ∈ recC x, v.oneCell' = true := by
  intro v hv
  simp [recC] at hv
  rcases hv with rfl | rfl | rfl | rfl | rfl | rfl <;> rfl

/-- A list's cells, flat. -/
theorem flat_kept (l : List Rc) : @Go.Sort.flatK Rc rcInh recC 6 l.toArray = (keptC l).toArray := by
  apply Array.ext_getElem?
  intro t
  by_cases ht : t < l.length * 6
  · obtain ⟨r, hr⟩ : ∃ r, l[t / 6]? = some r := ⟨_, List.getElem?_eq_getElem (by omega)⟩
    have h1 := keptC_at hr (t % 6) (by omega)
    rw [show t / 6 * 6 + t % 6 = t from by omega] at h1
    have h2 : (@Go.Sort.flatK Rc rcInh recC 6 l.toArray)[t]? = some (@Go.Sort.flatK Rc rcInh recC 6 l.toArray)[t]! := by
      rw [getElem!_pos _ t (by rw [@Go.Sort.size_flatK Rc rcInh]; exact ht)]
      exact Array.getElem?_eq_getElem _
    rw [h2, @Go.Sort.get_flatK Rc rcInh _ _ _ _ (by exact ht)]
    rw [@getElem!_pos _ _ _ _ _ _ rcInh l.toArray (t / 6) (by simp only [List.size_toArray]; omega)]
    have h3 : l.toArray[t / 6]'(by simp only [List.size_toArray]; omega) = r := by
      have := List.getElem?_eq_some_iff.1 hr
      simpa using this.2
    rw [h3, List.getElem?_toArray, h1]
    have h4 : t % 6 < 6 := by omega
    simp only [recC]
    match t % 6, h4 with
    | 0, _ => rfl
    | 1, _ => rfl
    | 2, _ => rfl
    | 3, _ => rfl
    | 4, _ => rfl
    | 5, _ => rfl
  · rw [Array.getElem?_eq_none (by rw [@Go.Sort.size_flatK Rc rcInh]; exact Nat.le_of_not_lt ht), Array.getElem?_eq_none (by simp only [List.size_toArray]; rw [keptC_len]; omega)]

theorem perm_arr {l : List Rc} {d : Array Rc} (h : @Go.Sort.PermIn Rc rcInh 0 l.toArray.size l.toArray d) : l.Perm d.toList := by
  obtain ⟨h1, _, h3⟩ := h
  have e1 : d.extract 0 l.toArray.size = d := by rw [← h1]; exact Array.extract_size
  have e2 : l.toArray.extract 0 l.toArray.size = l.toArray := Array.extract_size
  rw [e1, e2] at h3
  simpa using h3.symm

theorem sorted_arr {d : Array Rc} (h : @Go.Sort.SortedIn Rc rcInh (ltOf cfR) 0 d.size d) : d.toList.Pairwise (fun a b => a.ord ≤ b.ord) := by
  rw [List.pairwise_iff_getElem]
  intro i j hi hj hij
  have h1 := h i j (Nat.zero_le _) hij (by simpa using hj)
  rw [ltR] at h1
  simp only [Array.length_toList] at hi hj
  rw [@getElem!_pos _ _ _ _ _ _ rcInh d j hj, @getElem!_pos _ _ _ _ _ _ rcInh d i hi] at h1
  simp at h1
  simpa using h1

theorem sw_size (w : World) (g n : Nat) (d : Array Rc) (os : Array Obj) : (@sortWorldK Rc rcInh recC 6 w g 0 n d os).heap.size = w.heap.size + os.size := by
  show ((w.heap.modify g _) ++ os).size = _
  simp

theorem sw_other {w : World} {g n b : Nat} {d : Array Rc} {os : Array Obj} (hb : b < w.heap.size) (hne : b ≠ g) : (@sortWorldK Rc rcInh recC 6 w g 0 n d os).heap[b]? = w.heap[b]? := by
  show ((w.heap.modify g _) ++ os)[b]? = _
  rw [Array.getElem?_append_left (by simpa using hb), Array.getElem?_modify, if_neg (fun e => hne e.symm)]

theorem sw_fr {w : World} {g n : Nat} {d : Array Rc} {os : Array Obj} {len cap : Nat} (_hg : g < w.heap.size) : Fr (fun q => (Value.slice (some ⟨g, 0, none⟩) len cap).ownBlock = some q) w (@sortWorldK Rc rcInh recC 6 w g 0 n d os) :=
  ⟨rfl, rfl, rfl, by rw [sw_size]; omega, fun b hb hn => sw_other hb (fun e => hn (by rw [e]; rfl))⟩

theorem sw_own {w : World} {B g n cap : Nat} {d : Array Rc} {os : Array Obj} {l : List Rc} (h : w.ownsRow B 158 6 (.slice (some ⟨g, 0, none⟩) l.length cap) l.length (keptC l)) (hs : d.toList.length = l.length) :
    (@sortWorldK Rc rcInh recC 6 w g 0 n d os).ownsRow B 158 6 (.slice (some ⟨g, 0, none⟩) l.length cap) l.length (keptC d.toList) := by
  have hgl := (h.lt g rfl).2
  obtain ⟨hlen, ⟨hv, _⟩ | ⟨g', cap', cur, hv, hB, hg, hc1, hc2, hc3, hc4⟩⟩ := h
  · cases hv
  · cases hv
    have hF : @Go.Sort.flatK Rc rcInh recC 6 d = (keptC d.toList).toArray := by
      have := flat_kept d.toList
      simpa using this
    have hkl := keptC_len d.toList
    refine ⟨by rw [hkl, hs], .inr ⟨g, cap, Go.Sort.putCells id 0 (keptC d.toList).toArray cur, rfl, hB, ?_, hc1, hc2, ?_, ?_⟩⟩
    · show ((w.heap.modify g (Go.Sort.onCells (Go.Sort.putCells id 0 (@Go.Sort.flatK Rc rcInh recC 6 d)))) ++ os)[g]? = _
      rw [Array.getElem?_append_left (by simpa using hgl), Array.getElem?_modify, if_pos rfl, hg, hF]
      rfl
    · unfold Go.Sort.putCells
      rw [Array.size_mapIdx]
      exact hc3
    · apply List.ext_getElem?
      intro q
      rw [List.getElem?_take]
      by_cases hq : q < l.length * 6
      · rw [if_pos hq]
        unfold Go.Sort.putCells
        rw [Array.getElem?_toList, Array.getElem?_mapIdx, Array.getElem?_eq_getElem (by rw [hc3]; omega)]
        have hq2 : q < (keptC d.toList).length := by rw [hkl, hs]; exact hq
        simp only [Option.map_some, Nat.zero_le, Nat.zero_add, List.size_toArray, hq2, and_self, if_true, Nat.sub_zero, id]
        rw [getElem!_pos _ q (by simpa using hq2), List.getElem?_eq_getElem hq2]
        simp
      · rw [if_neg hq, List.getElem?_eq_none (by rw [hkl, hs]; omega)]

set_option maxRecDepth 100000 in
theorem sort_recs : SortC := by
  intro v l w B hl h
  have h0 := h
  obtain ⟨hlen, ⟨rfl, hn⟩ | ⟨g, cap, cur, rfl, hB, hg, hc1, hc2, hc3, hc4⟩⟩ := h0
  · have hc := AnyF.slices_SortFunc_none Tryz.sortL none 0 (.func (.func 90) #[] #[]) w
    change Calls Tryz.prog 89 _ _ _ at hc
    refine hc.mono ?_
    rintro e w' ⟨rfl, rfl⟩
    have : l = [] := List.length_eq_zero_iff.1 hn
    subst this
    exact ⟨rfl, [], List.Perm.refl _, List.Pairwise.nil, h, Fr.refl _ _⟩
  · have hgl := (h.lt g rfl).2
    have eg : ∀ args w, (callFunc 90 args).run Tryz.prog w = .ok (.enter 90 args) w := enters_of Tryz.func90 (by kernel_rfl) rfl
    have hH : @Go.Sort.HoldsK Rc rcInh recC 6 w g 0 l.toArray := by
      show Go.Sort.Holds id w g 0 (@Go.Sort.flatK Rc rcInh recC 6 l.toArray)
      rw [flat_kept]
      intro j hj
      have hj' : j < (keptC l).length := by simpa using hj
      refine ⟨?_, h.frozenAt _⟩
      have := h.cells (g := g) rfl j ((keptC l)[j]) (List.getElem?_eq_getElem hj')
      rw [Addr.add_lit] at this
      rw [this, getElem!_pos _ j hj]
      simp
    have hcmp : @CmpLays Rc rcInh Tryz.prog 90 #[] recC 6 cfR g 0 l.toArray.size w := fun _ _ _ _ x y => closure_any x y _
    have hc := @AnyQ.slices_SortFunc Tryz.prog Tryz.sortL_ren Rc rcInh Tryz.sortL 6 Tryz.isAgg158 Tryz.sizeOf158 recC (fun _ => rfl) recC_one cfR swoR 90 #[] g 0 cap l.toArray w eg hcmp hH hgl (by simp; omega)
    change Calls Tryz.prog 89 _ _ _ at hc
    rw [List.size_toArray] at hc
    refine hc.mono ?_
    rintro e w' ⟨rfl, d, n, os, hp, hs, rfl⟩
    have hds : d.size = l.length := by have := hp.1; simpa using this
    have hsz : d.toList.length = l.length := by simpa using hds
    refine ⟨rfl, d.toList, perm_arr (by simpa using hp), sorted_arr (by rw [hds]; exact hs), ?_, ?_⟩
    · rw [hsz]
      exact sw_own h hsz
    · exact sw_fr hgl

end Go.Proofs.YtdabcflpcklfiaaGreat
