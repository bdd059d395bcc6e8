import Derived.Test.YtdabcflpcklfiaaQa
import Derived.Test.YtdabcflpcklfiaaXc
import Derived.Test.YtdabcflpcklfiaaPi
/- The document's Assign, walked; and the law Assigned. -/
namespace Go.Proofs.Ytdabcflpcklfiaa
open Go.RowKit

theorem Try.info4 : (Try.prog.info? 4).map (fun i => (i.zero, i.size, i.bytes)) = some (some (.bool false), 1, 1) := by kernel_rfl

theorem zero_b (q : Nat) : ((Value.bool false).cells[q % (Value.bool false).cells.size]!) = fls q := by
  have h : q % 1 = 0 := Nat.mod_one q
  show (#[Value.bool false] : Array Value)[q % 1]! = _
  rw [h]
  rfl

set_option maxRecDepth 100000 in
set_option maxHeartbeats 1000000 in
theorem refassign_err (so : Option Addr) (n cap : Nat) (x y : Int) (w : World) (hx : x ≠ 0) (hC : Calls Try.prog 33 #[.slice so n cap] w fun e w' => e = .returned (.tuple #[.int .i64 x, .int .i64 y]) ∧ Below w.heap.size w w') :
    Calls Try.prog 40 #[.slice so n cap] w fun e w' => e = .returned (.tuple #[.slice none 0 0, .int .i64 x, .int .i64 y]) ∧ Below w.heap.size w w' := by
  have HC : Hid (Calls Try.prog 33 #[.slice so n cap] w fun e w' => e = .returned (.tuple #[.int .i64 x, .int .i64 y]) ∧ Below w.heap.size w w') := hC
  have hd : (x != 0) = true := by simpa using hx
  clear hC hx
  go_enter Try.func40, Try.ntmps40
  go_wp2_with fail
  refine (HC.out).mono ?_
  rintro e w1 ⟨rfl, hb1⟩
  have HB1 : Hid (Below w.heap.size w w1) := hb1
  clear hb1
  go_wp2
  go_ret3
  exact ⟨rfl, HB1.out⟩

/-- The document's search in memory: who has a priority, and which. -/
structure RefAt (w wr : World) (gb pb n p : Nat) (T : TD) (H : Nat → Bool) (Z : Nat → Int) : Prop where
  part : RefPart T n p H Z
  rg : wr.rowIs gb 4 n (fun q => .bool (!H q))
  rp : wr.rowIs pb 3 n (fun q => .int .i64 (Z q))
  bel : Below w.heap.size w wr

theorem RefAt.next {w wr : World} {gb pb n p : Nat} {T : TD} {H : Nat → Bool} {Z : Nat → Int} (hG : Good T n) (h : RefAt w wr gb pb n p T H Z) (hgb : w.heap.size ≤ gb) (hpb : w.heap.size ≤ pb) {f : Nat} (hf : f < n) (hH : H f = true) (hb : Has T n (dropI H f) f) (hmax : ∀ j, f < j → j < n → H j = true → ¬ Has T n (dropI H j) j) :
    RefAt w ((wr.setCell ⟨gb, f, none⟩ (.bool true)).setCell ⟨pb, f, none⟩ (.int .i64 p)) gb pb n (p + 1) T (dropI H f) (updZ Z f p) := by
  have hne : gb ≠ pb := rows_ne h.rg h.rp (by decide)
  refine ⟨h.part.next hG hf hH hb hmax, ?_, ?_, (h.bel.setCell hgb _).setCell hpb _⟩
  · refine ((h.rg.set f (.bool true)).setOther (by simpa using hne) _).congr (fun q _ => ?_)
    unfold dropI
    by_cases e : q = f
    · rw [if_pos e, if_pos e]; rfl
    · rw [if_neg e, if_neg e]
  · exact row_set_int (h.rp.setOther (by simpa using hne.symm) _) f p

set_option maxRecDepth 100000 in
set_option maxHeartbeats 2000000 in
theorem refassign_ok (b off n cap : Nat) (T : TD) (w : World) (hc : chkR T n = (0, 0)) (hb : b < w.heap.size) (hT : TasksAt w b off n T) :
    Calls Try.prog 40 #[.slice (some ⟨b, off, none⟩) n cap] w fun e w' => (e = .returned (.tuple #[.slice none 0 0, .int .i64 10, .int .i64 0]) ∧ ¬ Poss T n (fun q => decide (q < n)) ∨ ∃ pb Z, e = .returned (.tuple #[.slice (some ⟨pb, 0, none⟩) n n, .int .i64 0, .int .i64 0]) ∧ w'.rowIs pb 3 n (fun q => .int .i64 (Z q)) ∧ Cad.PrioB Z n ∧ (∀ i, i < n → Low T n (fun q => if q < n then decide (Z i ≤ Z q) else false) i)) ∧ Below w.heap.size w w' := by
  obtain ⟨i0, hi0, hq0, hq1, hq2⟩ := info_parts Try.info3
  obtain ⟨i4, hi4, hp0, hp1, hp2⟩ := info_parts Try.info4
  have hG := (good_of_chk hc).1
  have h8 := hG.eight
  have HG : Hid (Good T n) := hG
  have HC : Hid (chkR T n = (0, 0)) := hc
  have HT : Hid (TasksAt w b off n T) := hT
  clear hT hc hG
  go_enter Try.func40, Try.ntmps40
  go_wp2_with fail
  refine (ref_all b off n cap T _ 0 0 HC.out (by omega) hb HT.out).mono ?_
  rintro e w1 ⟨rfl, hb1⟩
  have HB1 : Hid (Below w.heap.size w w1) := hb1
  have hs1 := hb1.size
  clear hb1
  go_wp2_with (at_make; refine wpList_make_is _ rfl _ _ 116 rfl 4 i4 _ 1 1 Try.underlying116 hi4 hp0 hp1 hp2 _ _ _ _ n rfl rfl (by omega) (by omega) (by omega) (by omega) fls zero_b ?_)
  intro w2 hr2 hg2 hs2
  have HB2 : Hid (Below w.heap.size w w2) := HB1.out.grown hg2 (by omega) (fun k hk => by cases hk)
  have HR2 : Hid (w2.rowIs w1.heap.size 4 n (fun q => .bool (!decide (q < n)))) := by
    have : w2.rowIs w1.heap.size 4 n fls := by simpa using hr2
    exact this.congr (fun q hq => by simp [hq, fls])
  have hgb : w.heap.size ≤ w1.heap.size := by omega
  have hs2' : w.heap.size ≤ w2.heap.size := by omega
  generalize w1.heap.size = gb at *
  clear hr2 hg2 hs2
  go_wp2_with (at_make; refine wpList_make_is _ rfl _ _ 26 rfl 3 i0 _ 1 8 Try.underlying26 hi0 hq0 hq1 hq2 _ _ _ _ n rfl rfl (by omega) (by omega) (by omega) (by omega) z1 zero_1 ?_)
  intro w3 hr3 hg3 hs3
  have HB3 : Hid (Below w.heap.size w w3) := HB2.out.grown hg3 (by omega) (fun k hk => by cases hk)
  have HR3 : Hid (w3.rowIs w2.heap.size 3 n (fun q => .int .i64 ((fun _ => (0 : Int)) q))) := by
    have : w3.rowIs w2.heap.size 3 n z1 := by simpa using hr3
    exact this
  have HG3 : Hid (w3.rowIs gb 4 n (fun q => .bool (!decide (q < n)))) := HR2.out.of_block (hg3.block _ HR2.out.lt (by simp))
  have hpb : w.heap.size ≤ w2.heap.size := by omega
  generalize w2.heap.size = pb at *
  have HST : Hid (RefAt w w3 gb pb n 0 T (fun q => decide (q < n)) (fun _ => 0)) := ⟨RefPart.start, HG3.out, HR3.out, HB3.out⟩
  clear hr3 hg3 HB1 HB2 HR2 HB3 HR3 HG3 hs3
  go_wp2_with fail
  go_loopw [10] (fun lv wr => ∃ (p : Nat) (H : Nat → Bool) (Z : Nat → Int), p ≤ n ∧ lv = .int .i64 p ∧ RefAt w wr gb pb n p T H Z) (fun lv _ => n - (intOf lv).toNat)
  case atStart => exact ⟨0, _, _, Nat.zero_le _, rfl, HST.out⟩
  case round =>
    clear HST
    obtain ⟨p, H, Z, hp, rfl, hat⟩ := hrel
    have HAT : Hid (RefAt w wr gb pb n p T H Z) := hat
    clear hat
    by_cases hlt : p < n
    · go_wp2_with fail
      go_loopw [11, 12] (fun fv iv wr => ∃ i : Nat, i ≤ n ∧ iv = .int .i64 i ∧ RefAt w wr gb pb n p T H Z ∧ ((fv = .int .i64 (-1) ∧ ∀ j, j < i → H j = true → ¬ Has T n (dropI H j) j) ∨ ∃ f : Nat, fv = .int .i64 f ∧ f < i ∧ H f = true ∧ Has T n (dropI H f) f ∧ ∀ j, f < j → j < i → H j = true → ¬ Has T n (dropI H j) j)) (fun _ iv _ => n - (intOf iv).toNat)
      case atStart => exact ⟨0, Nat.zero_le _, rfl, HAT.out, .inl ⟨rfl, fun j hj => by omega⟩⟩
      case round =>
        clear HAT
        obtain ⟨i, hi, rfl, hat, hfo⟩ := hrel
        have HAT : Hid (RefAt w wr gb pb n p T H Z) := hat
        clear hat
        by_cases hil : i < n
        · have y1 : wr.cell? ⟨gb, i, none⟩ = some (.bool (!H i)) := HAT.out.rg.cell hil
          have hgl := HAT.out.rg.lt
          have hpl := HAT.out.rp.lt
          have hsz := HAT.out.bel.size
          rcases Bool.eq_false_or_eq_true (H i) with hg | hg
          · rw [hg] at y1
            have HG1 : Hid (H i = true) := hg
            clear hg
            obtain ⟨hpr, hab⟩ := try_prio HAT.out.part.part hil HG1.out
            have HPR : Hid (Cad.PrioB (tryZ H Z i p) n) := hpr
            have HAB : Hid (abv (tryZ H Z i p) n i = dropI H i) := hab
            clear hpr hab
            go_wp2_with fail
            refine (tried_any pb gb n n n i p H Z wr h8 hil HG1.out (by omega) hpl hgl HAT.out.rp HAT.out.rg).mono ?_
            rintro e w5 ⟨v, rfl, hown5, hb5⟩
            obtain ⟨qo, qc, hqv, hqi⟩ := outY_own hown5
            subst hqv
            obtain ⟨qb, qf, hqe, hqq⟩ := hqi (by omega)
            subst hqe
            have hqbl : qb < w5.heap.size := World.block_lt_of_cell? w5 _ (hqq i hil)
            have HQQ : Hid (IntsAt w5 qb qf n (tryZ H Z i p)) := hqq
            have HB5 : Hid (Below wr.heap.size wr w5) := hb5
            have hs5 := hb5.size
            have HBW5 : Hid (Below w.heap.size w w5) := HAT.out.bel.trans (hb5.mono hsz)
            clear hown5 hqq hb5 hqi
            go_wp2_with fail
            refine (refbound_any b off n cap qb qf qc i T (tryZ H Z i p) w5 HG.out hil (by omega) hqbl (TasksAt.below HT.out hb HBW5.out) HQQ.out (fun t ht => (HPR.out.1 t ht).1)).mono ?_
            rintro e w6 ⟨s, r, rfl, hmx, hbd, hb6⟩
            have HHS : Hid (Has T n (dropI H i) i ↔ 0 < r) := by
              have := refB_set HG.out hil HPR.out ⟨s, hmx, hbd⟩
              rw [HAB.out] at this
              exact has_iff this
            have hbw6 : Below wr.heap.size wr w6 := HB5.out.trans (hb6.mono hs5)
            have HAT6 : Hid (RefAt w w6 gb pb n p T H Z) := ⟨HAT.out.part, HAT.out.rg.of_block (hbw6.block _ hgl), HAT.out.rp.of_block (hbw6.block _ hpl), HAT.out.bel.trans (hbw6.mono hsz)⟩
            clear hmx hbd hb6 hbw6 HB5 HBW5 HQQ y1
            by_cases hr0 : 0 < r
            · have bd : decide (0 < r) = true := by simpa using hr0
              have HF : Hid (Has T n (dropI H i) i) := HHS.out.2 hr0
              clear hfo
              go_wp2
              go_roundw
              case rel => exact ⟨i + 1, by omega, by go_num, HAT6.out, .inr ⟨i, rfl, by omega, HG1.out, HF.out, fun j h1 h2 => by omega⟩⟩
              case measure => simp [intOf]; omega
            · have bd : decide (0 < r) = false := by simpa using hr0
              have HF : Hid (¬ Has T n (dropI H i) i) := fun h => hr0 (HHS.out.1 h)
              rcases hfo with ⟨rfl, hno⟩ | ⟨f, rfl, hfi, hfH, hfb, hfm⟩
              · go_wp2
                go_roundw
                case rel => exact ⟨i + 1, by omega, by go_num, HAT6.out, .inl ⟨rfl, fun j hj hH => by
                  by_cases e : j = i
                  · subst e; exact HF.out
                  · exact hno j (by omega) hH⟩⟩
                case measure => simp [intOf]; omega
              · have HFM : Hid (H f = true ∧ Has T n (dropI H f) f ∧ ∀ j, f < j → j < i → H j = true → ¬ Has T n (dropI H j) j) := ⟨hfH, hfb, hfm⟩
                clear hfH hfb hfm
                go_wp2
                go_roundw
                case rel => exact ⟨i + 1, by omega, by go_num, HAT6.out, .inr ⟨f, rfl, by omega, HFM.out.1, HFM.out.2.1, fun j h1 h2 hH => by
                  by_cases e : j = i
                  · subst e; exact HF.out
                  · exact HFM.out.2.2 j h1 (by omega) hH⟩⟩
                case measure => simp [intOf]; omega
          · rw [hg] at y1
            have HG1 : Hid (H i = false) := hg
            clear hg
            go_wp2
            go_roundw
            case rel => exact ⟨i + 1, by omega, by go_num, HAT.out, hfo.imp (fun h => ⟨h.1, fun j hj hH => by
                by_cases e : j = i
                · subst e; rw [HG1.out] at hH; cases hH
                · exact h.2 j (by omega) hH⟩) (fun ⟨f, h1, h2, h3, h4, h5⟩ => ⟨f, h1, by omega, h3, h4, fun j hj1 hj2 hH => by
                by_cases e : j = i
                · subst e; rw [HG1.out] at hH; cases hH
                · exact h5 j hj1 (by omega) hH⟩)⟩
            case measure => simp [intOf]; omega
        · obtain rfl : i = n := by omega
          rcases hfo with ⟨rfl, hno⟩ | ⟨f, rfl, hfi, hfH, hfb, hfm⟩
          · have HNO : Hid (¬ Poss T i (fun q => decide (q < i))) := HAT.out.part.none hlt hno
            clear hno
            go_wp2
            go_ret3
            exact ⟨.inl ⟨rfl, HNO.out⟩, HAT.out.bel⟩
          · have HNX : Hid (RefAt w ((wr.setCell ⟨gb, f, none⟩ (.bool true)).setCell ⟨pb, f, none⟩ (.int .i64 p)) gb pb i (p + 1) T (dropI H f) (updZ Z f p)) := HAT.out.next HG.out hgb hpb hfi hfH hfb hfm
            have x0 : wr.cell? ⟨gb, f, none⟩ = some (.bool (!H f)) := HAT.out.rg.cell hfi
            have x1 : wr.cell? ⟨pb, f, none⟩ = some (.int .i64 (Z f)) := HAT.out.rp.cell hfi
            have zz0 : ∀ q, wr.frozen? ⟨gb, q, none⟩ = false := fun q => HAT.out.rg.frozen q
            have zz1 : ∀ q, wr.frozen? ⟨pb, q, none⟩ = false := fun q => HAT.out.rp.frozen q
            have hne : gb ≠ pb := rows_ne HAT.out.rg HAT.out.rp (by decide)
            clear hfH hfb hfm
            go_wp2
            go_roundw
            case rel => exact ⟨p + 1, _, _, by omega, by go_num, HNX.out⟩
            case measure => simp [intOf]; omega
    · obtain rfl : p = n := by omega
      obtain ⟨hd1, hd2⟩ := HAT.out.part.done
      have HD1 : Hid (Cad.PrioB Z p) := hd1
      have HD2 : Hid (∀ i, i < p → Low T p (fun q => if q < p then decide (Z i ≤ Z q) else false) i) := hd2
      clear hd1 hd2
      go_wp2
      go_ret3
      exact ⟨.inr ⟨pb, Z, rfl, HAT.out.rp, HD1.out, HD2.out⟩, HAT.out.bel⟩

end Go.Proofs.Ytdabcflpcklfiaa
