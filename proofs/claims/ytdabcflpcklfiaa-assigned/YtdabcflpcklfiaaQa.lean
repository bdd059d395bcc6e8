import Derived.Test.YtdabcflpcklfiaaPb
import Derived.Test.YtdabcflpcklfiaaPg
/- The document's Assign. -/
namespace Go.Proofs.Ytdabcflpcklfiaa
open Go.RowKit

theorem refB_set {T : TD} {Z : Nat → Int} {n i : Nat} {r : Int} (hG : Good T n) (hin : i < n) (hp : Cad.PrioB Z n) (h : RefB T Z n i r) : SetB T n (abv Z n i) i r := by
  obtain ⟨s', hm, hr⟩ := h
  obtain ⟨s, hs⟩ := bc_ex T (withI (abv Z n i) i) n
  have hc : Cad.IsMax (Cad.SCode T.K T.N T.L Z n i) s := BcTo.fin (fun a ha => by
    unfold withI abv
    by_cases e : a = i
    · subst e; simp
    · simp [e, ha]) hs
  have he : s' = s := Cad.blk_eq hG.prog hin (fun t ht => (hp.1 t ht).1) hp.2 hm hc
  subst he
  have hf : (fun u => T.dm i + s' + Cad.inter T.P T.J T.dm (abv Z n i) u n) = fitF T Z n i s' := by
    funext u
    unfold fitF
    rw [inter_congr (h := abv Z n i) (h' := hiB Z i) n (fun m hm => by unfold abv hiB; rw [if_pos hm])]
  exact ⟨s', hs, by rw [hf]; exact hr⟩

/-- The priorities that were given, task i next, the others above. -/
def tryZ (H : Nat → Bool) (Z : Nat → Int) (i p j : Nat) : Int := if H j = false then Z j else if j = i then (p : Int) else (p : Int) + 1 + (cntS (dropI H i) j : Int)

theorem cntS_mono {H : Nat → Bool} {a : Nat} : ∀ d, cntS H a ≤ cntS H (a + d)
  | 0 => Nat.le_refl _
  | d + 1 => by
    have := cntS_mono (H := H) (a := a) d
    show _ ≤ cntS H (a + d) + _
    omega

theorem cntS_lt {H : Nat → Bool} {a b : Nat} (ha : H a = true) (h : a < b) : cntS H a < cntS H b := by
  obtain ⟨d, rfl⟩ : ∃ d, b = a + 1 + d := ⟨b - (a + 1), by omega⟩
  have h1 := cntS_mono (H := H) (a := a + 1) d
  have h2 : cntS H (a + 1) = cntS H a + 1 := by
    show cntS H a + (if H a = true then 1 else 0) = _
    rw [if_pos ha]
  omega

theorem try_prio {Q : Prop} {T : TD} {n p i : Nat} {H : Nat → Bool} {Z : Nat → Int} (h : Part Q T n p H Z) (hi : i < n) (hH : H i = true) : Cad.PrioB (tryZ H Z i p) n ∧ abv (tryZ H Z i p) n i = dropI H i := by
  have hcn := cntS_drop hH n hi
  have hc := h.cnt
  have hgiven : ∀ j, j < n → H j = false → tryZ H Z i p j = Z j ∧ 0 ≤ Z j ∧ Z j < p := fun j hj hh => ⟨if_pos hh, h.lt j hj hh⟩
  have hself : tryZ H Z i p i = (p : Int) := by unfold tryZ; rw [if_neg (by simp [hH]), if_pos rfl]
  have hoth : ∀ j, j < n → H j = true → j ≠ i → tryZ H Z i p j = (p : Int) + 1 + (cntS (dropI H i) j : Int) ∧ (p : Int) + 1 + (cntS (dropI H i) j : Int) < n ∧ dropI H i j = true := fun j hj hh hne => by
    have hd : dropI H i j = true := by rw [dropI_ne hne]; exact hh
    have := cntS_lt hd hj
    refine ⟨?_, by omega, hd⟩
    unfold tryZ
    rw [if_neg (by simp [hh]), if_neg hne]
  refine ⟨⟨fun k hk => ?_, fun a b ha hb e => ?_⟩, ?_⟩
  · rcases Bool.eq_false_or_eq_true (H k) with hk2 | hk2
    · by_cases e : k = i
      · subst e; rw [hself]; omega
      · have := hoth k hk hk2 e; omega
    · have := hgiven k hk hk2; omega
  · rcases Bool.eq_false_or_eq_true (H a) with ha2 | ha2 <;> rcases Bool.eq_false_or_eq_true (H b) with hb2 | hb2
    · by_cases ea : a = i
      · by_cases eb : b = i
        · omega
        · have := hoth b hb hb2 eb; subst ea; rw [hself] at e; omega
      · by_cases eb : b = i
        · have := hoth a ha ha2 ea; subst eb; rw [hself] at e; omega
        · have h1 := hoth a ha ha2 ea
          have h2 := hoth b hb hb2 eb
          rcases Nat.lt_trichotomy a b with g | g | g
          · have := cntS_lt h1.2.2 g; omega
          · exact g
          · have := cntS_lt h2.2.2 g; omega
    · have h2 := hgiven b hb hb2
      by_cases ea : a = i
      · subst ea; rw [hself] at e; omega
      · have := hoth a ha ha2 ea; omega
    · have h2 := hgiven a ha ha2
      by_cases eb : b = i
      · subst eb; rw [hself] at e; omega
      · have := hoth b hb hb2 eb; omega
    · have h1 := hgiven a ha ha2
      have h2 := hgiven b hb hb2
      exact h.inj a b ha hb ha2 hb2 (by omega)
  · funext j
    unfold abv
    rw [hself]
    by_cases hj : j < n
    · rw [if_pos hj]
      by_cases e : j = i
      · subst e; rw [hself, dropI_self]; simp
      · rw [dropI_ne e]
        rcases Bool.eq_false_or_eq_true (H j) with hj2 | hj2
        · have := hoth j hj hj2 e
          rw [hj2]
          simp only [decide_eq_true_eq]
          omega
        · have := hgiven j hj hj2
          rw [hj2]
          simp only [decide_eq_false_iff_not]
          omega
    · rw [if_neg hj, dropI_ne (by omega), h.sub j (by omega)]

/-- What the document's search has come to. -/
structure RefPart (T : TD) (n p : Nat) (H : Nat → Bool) (Z : Nat → Int) : Prop where
  part : Part False T n p H Z
  whole : Poss T n (fun q => decide (q < n)) → Part True T n p H Z ∧ Poss T n H

theorem RefPart.start {T : TD} {n : Nat} {Z : Nat → Int} : RefPart T n 0 (fun q => decide (q < n)) Z := ⟨Part.start, fun h => ⟨Part.start, h⟩⟩

theorem RefPart.next {T : TD} {n p i : Nat} {H : Nat → Bool} {Z : Nat → Int} (hG : Good T n) (h : RefPart T n p H Z) (hi : i < n) (hH : H i = true) (hb : Has T n (dropI H i) i) (hmax : ∀ j, i < j → j < n → H j = true → ¬ Has T n (dropI H j) j) : RefPart T n (p + 1) (dropI H i) (updZ Z i p) :=
  ⟨h.part.next hi hH hb (fun h => h.elim), fun hp => ⟨(h.whole hp).1.next hi hH hb (fun _ => low_of hG (h.whole hp).2 hi hH hb hmax), poss_drop hG (h.whole hp).2 i hi hH hb⟩⟩

theorem RefPart.none {T : TD} {n p : Nat} {H : Nat → Bool} {Z : Nat → Int} (h : RefPart T n p H Z) (hp : p < n) (hmax : ∀ j, j < n → H j = true → ¬ Has T n (dropI H j) j) : ¬ Poss T n (fun q => decide (q < n)) := fun hf => by
  rcases poss_one (h.whole hf).2 with h0 | ⟨i, hi, hH, hb, _⟩
  · have hz : ∀ m, m ≤ n → cntS H m = 0 := by
      intro m
      induction m with
      | zero => intro _; rfl
      | succ m ih =>
        intro hm
        show cntS H m + (if H m = true then 1 else 0) = 0
        rw [ih (by omega), if_neg (by rw [h0 m (by omega)]; decide)]
    have := hz n (Nat.le_refl _)
    have := h.part.cnt
    omega
  · exact hmax i hi hH hb

theorem RefPart.done {T : TD} {n : Nat} {H : Nat → Bool} {Z : Nat → Int} (h : RefPart T n n H Z) : Cad.PrioB Z n ∧ (∀ i, i < n → Low T n (fun q => if q < n then decide (Z i ≤ Z q) else false) i) := by
  obtain ⟨h1, h2, _⟩ := h.part.done
  exact ⟨h1, ((h.whole (poss_of_prio h1 h2)).1.done).2.2 trivial⟩

/-- There is one way only. -/
theorem low_prio_unique {T : TD} {n : Nat} {Z Z' : Nat → Int} (hp : Cad.PrioB Z n) (hp' : Cad.PrioB Z' n) (hl : ∀ i, i < n → Low T n (fun q => if q < n then decide (Z i ≤ Z q) else false) i) (hl' : ∀ i, i < n → Low T n (fun q => if q < n then decide (Z' i ≤ Z' q) else false) i) : ∀ i, i < n → Z i = Z' i := by
  have main : ∀ p : Nat, p ≤ n → ∀ i, i < n → (Z i < p ∨ Z' i < p) → Z i = Z' i := by
    intro p
    induction p with
    | zero => intro _ i hi h; have := (hp.1 i hi).1; have := (hp'.1 i hi).1; omega
    | succ p ih =>
      intro hpn i hi h
      have ih' := ih (by omega)
      obtain ⟨a, ha, hza⟩ := (Cad.order_iff Z n).2 hp p (by omega)
      obtain ⟨b, hb, hzb⟩ := (Cad.order_iff Z' n).2 hp' p (by omega)
      have hset : (fun q => if q < n then decide (Z a ≤ Z q) else false) = (fun q => if q < n then decide (Z' b ≤ Z' q) else false) := by
        funext q
        by_cases hq : q < n
        · rw [if_pos hq, if_pos hq, hza, hzb, decide_eq_decide]
          have := ih' q hq
          constructor
          · intro g
            rcases Int.lt_or_le (Z' q) p with g2 | g2
            · have := this (.inr g2); omega
            · exact g2
          · intro g
            rcases Int.lt_or_le (Z q) p with g2 | g2
            · have := this (.inl g2); omega
            · exact g2
        · rw [if_neg hq, if_neg hq]
      have hab : a = b := low_unique (hl a ha) (by rw [hset]; exact hl' b hb)
      subst hab
      by_cases hd : Z i < p ∨ Z' i < p
      · exact ih' i hi hd
      · have hz : Z i = p ∨ Z' i = p := by omega
        rcases hz with g | g
        · have : i = a := hp.2 i a hi ha (by omega)
          subst this; omega
        · have : i = a := hp'.2 i a hi ha (by omega)
          subst this; omega
  intro i hi
  exact main n (Nat.le_refl _) i hi (.inl (hp.1 i hi).2)

theorem outOf_next (R : Nat → Int) (k : Nat) {r : Int} (h : r = R k) : outOf R k ++ [Value.int .i64 r] = outOf R (k + 1) := by
  subst h
  simp [outOf, List.range_succ]

set_option maxRecDepth 100000 in
set_option maxHeartbeats 1000000 in
theorem tried_any (pb gb n pc gc i p : Nat) (H : Nat → Bool) (Z : Nat → Int) (w : World) (hn : n ≤ 8) (hi : i < n) (hH : H i = true) (hp : p ≤ 8) (hpb : pb < w.heap.size) (hgb : gb < w.heap.size) (hZ : w.rowIs pb 3 n (fun q => .int .i64 (Z q))) (hB : w.rowIs gb 4 n (fun q => .bool (!H q))) :
    Calls Try.prog 63 #[.slice (some ⟨pb, 0, none⟩) n pc, .slice (some ⟨gb, 0, none⟩) n gc, .int .i64 i, .int .i64 p] w fun e w' => ∃ v, e = .returned v ∧ w'.ownsRow w.heap.size 3 1 v n (outOf (tryZ H Z i p) n) ∧ Below w.heap.size w w' := by
  obtain ⟨i0, hi0, hz0, hz1, hz2⟩ := info_parts Try.info3
  have HZ : Hid (w.rowIs pb 3 n (fun q => .int .i64 (Z q))) := hZ
  have HB : Hid (w.rowIs gb 4 n (fun q => .bool (!H q))) := hB
  have HH : Hid (H i = true) := hH
  clear hZ hB hH
  go_enter Try.func63, Try.ntmps63
  go_wp2_with fail
  go_loopw [9, 10, 11] (fun v uv jv wr => ∃ j : Nat, j ≤ n ∧ jv = .int .i64 j ∧ uv = .int .i64 ((p : Int) + 1 + (cntS (dropI H i) j : Int)) ∧ wr.ownsRow w.heap.size 3 1 v j (outOf (tryZ H Z i p) j) ∧ Below w.heap.size w wr) (fun _ _ jv _ => n - (intOf jv).toNat)
  case atStart => exact ⟨0, Nat.zero_le _, rfl, by simp [cntS], World.ownsRow_nil _ _ _ _, Below.refl _ _⟩
  case round =>
    obtain ⟨j, hj, rfl, rfl, hown, hbel⟩ := hrel
    have hsz := hbel.size
    have HBE : Hid (Below w.heap.size w wr) := hbel
    by_cases hlt : j < n
    · have y0 : wr.cell? ⟨pb, j, none⟩ = some (.int .i64 (Z j)) := (hbel.cell (p := ⟨pb, j, none⟩) hpb).trans (HZ.out.cell hlt)
      have y1 : wr.cell? ⟨gb, j, none⟩ = some (.bool (!H j)) := (hbel.cell (p := ⟨gb, j, none⟩) hgb).trans (HB.out.cell hlt)
      have hcl := cntS_le (H := dropI H i) j
      clear hbel
      rcases Bool.eq_false_or_eq_true (H j) with hg | hg
      · rw [hg] at y1
        by_cases e : j = i
        · have he : ((j : Int) == (i : Int)) = true := by simp; omega
          have HT : Hid ((p : Int) = tryZ H Z i p j) := by unfold Hid tryZ; rw [if_neg (by simp [hg]), if_pos e]
          have HC : Hid (cntS (dropI H i) (j + 1) = cntS (dropI H i) j) := by
            show cntS (dropI H i) j + (if dropI H i j = true then 1 else 0) = _
            rw [e, dropI_self, if_neg (by decide)]; rfl
          clear e hg
          go_wp2_with (at_builtin; refine wpList_append_own _ rfl _ _ 26 rfl w.heap.size 3 i0 (.int .i64 0) 1 8 Try.underlying26 hi0 hz0 hz1 hz2 rfl (by decide) _ _ _ rfl (hown.alloc _) ⟨wr.heap.size, 0, none⟩ 1 1 [.int .i64 (p : Int)] rfl rfl ?c1 ?c2 ?c3 ?c4 ?c5 ?_)
          case c1 => exact cell_one_at _ _ rfl _ _
          case c2 => exact one_oneCell rfl
          case c3 => unfold maxLen; omega
          case c4 => omega
          case c5 => simp; omega
          intro v5 w5 hown5 hg5 _
          have hb5 : Below w.heap.size w w5 := (HBE.out.alloc hsz _).grown hg5 (by simp; omega) (fun k hk => (hown.lt k hk).1)
          rw [outOf_next _ _ HT.out] at hown5
          have HO5 : Hid (w5.ownsRow w.heap.size 3 1 v5 (j + 1) (outOf (tryZ H Z i p) (j + 1))) := hown5
          have HB5 : Hid (Below w.heap.size w w5) := hb5
          clear hown5 hg5 hown hb5
          go_wp2
          go_roundw
          case rel => exact ⟨j + 1, by omega, by go_num, by rw [HC.out], HO5.out, HB5.out⟩
          case measure => simp [intOf]; omega
        · have he : ((j : Int) == (i : Int)) = false := by simp; omega
          have HT : Hid ((p : Int) + 1 + (cntS (dropI H i) j : Int) = tryZ H Z i p j) := by unfold Hid tryZ; rw [if_neg (by simp [hg]), if_neg e]
          have HC : Hid (cntS (dropI H i) (j + 1) = cntS (dropI H i) j + 1) := by
            show cntS (dropI H i) j + (if dropI H i j = true then 1 else 0) = _
            rw [dropI_ne e, if_pos hg]
          clear e hg
          generalize cntS (dropI H i) j = c at *
          go_wp2_with (at_builtin; refine wpList_append_own _ rfl _ _ 26 rfl w.heap.size 3 i0 (.int .i64 0) 1 8 Try.underlying26 hi0 hz0 hz1 hz2 rfl (by decide) _ _ _ rfl (hown.alloc _) ⟨wr.heap.size, 0, none⟩ 1 1 [.int .i64 ((p : Int) + 1 + (c : Int))] rfl rfl ?c1 ?c2 ?c3 ?c4 ?c5 ?_)
          case c1 => exact cell_one_at _ _ rfl _ _
          case c2 => exact one_oneCell rfl
          case c3 => unfold maxLen; omega
          case c4 => omega
          case c5 => simp; omega
          intro v5 w5 hown5 hg5 _
          have hb5 : Below w.heap.size w w5 := (HBE.out.alloc hsz _).grown hg5 (by simp; omega) (fun k hk => (hown.lt k hk).1)
          rw [outOf_next _ _ HT.out] at hown5
          have HO5 : Hid (w5.ownsRow w.heap.size 3 1 v5 (j + 1) (outOf (tryZ H Z i p) (j + 1))) := hown5
          have HB5 : Hid (Below w.heap.size w w5) := hb5
          clear hown5 hg5 hown hb5
          go_wp2
          go_roundw
          case rel => exact ⟨j + 1, by omega, by go_num, by rw [HC.out]; go_num, HO5.out, HB5.out⟩
          case measure => simp [intOf]; omega
      · rw [hg] at y1
        have HT : Hid (Z j = tryZ H Z i p j) := by unfold Hid tryZ; rw [if_pos hg]
        have HC : Hid (cntS (dropI H i) (j + 1) = cntS (dropI H i) j) := by
          show cntS (dropI H i) j + (if dropI H i j = true then 1 else 0) = _
          rw [if_neg (fun g => by have := (dropI_le g).1; rw [hg] at this; cases this)]; rfl
        clear hg
        go_wp2_with (at_builtin; refine wpList_append_own _ rfl _ _ 26 rfl w.heap.size 3 i0 (.int .i64 0) 1 8 Try.underlying26 hi0 hz0 hz1 hz2 rfl (by decide) _ _ _ rfl (hown.alloc _) ⟨wr.heap.size, 0, none⟩ 1 1 [.int .i64 (Z j)] rfl rfl ?c1 ?c2 ?c3 ?c4 ?c5 ?_)
        case c1 => exact cell_one_at _ _ rfl _ _
        case c2 => exact one_oneCell rfl
        case c3 => unfold maxLen; omega
        case c4 => omega
        case c5 => simp; omega
        intro v5 w5 hown5 hg5 _
        have hb5 : Below w.heap.size w w5 := (HBE.out.alloc hsz _).grown hg5 (by simp; omega) (fun k hk => (hown.lt k hk).1)
        rw [outOf_next _ _ HT.out] at hown5
        have HO5 : Hid (w5.ownsRow w.heap.size 3 1 v5 (j + 1) (outOf (tryZ H Z i p) (j + 1))) := hown5
        have HB5 : Hid (Below w.heap.size w w5) := hb5
        clear hown5 hg5 hown hb5
        go_wp2
        go_roundw
        case rel => exact ⟨j + 1, by omega, by go_num, by rw [HC.out], HO5.out, HB5.out⟩
        case measure => simp [intOf]; omega
    · obtain rfl : j = n := by omega
      clear hbel
      go_wp2
      go_ret
      exact ⟨_, rfl, hown, HBE.out⟩

end Go.Proofs.Ytdabcflpcklfiaa
