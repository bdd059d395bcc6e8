import Derived.Test.YtdabcflpcklfiaaGreatA53
import Derived.Test.YtdabcflpcklfiaaGreatA24
import Derived.Test.YtdabcflpcklfiaaGreatA52
import Derived.Test.YtdabcflpcklfiaaGreatA51
import Derived.Test.YtdabcflpcklfiaaGreatA29
import Derived.Shelf.SlSortCmp.NoneTotal
import Derived.Ground.SlsfProg
/- Whether a set is possible. -/
namespace Go.Proofs.YtdabcflpcklfiaaGreat
open Go.RowKit

theorem run_eqset (H H' : Nat → Bool) (w : World) : ∃ r : Bool, (Op.equalIn 10000 128 (setV H) (setV H')).run Tryz.prog w = .ok r w ∧ (r = true ↔ ∀ q, q < 8 → H q = H' q) := by
  have hform : ∀ H : Nat → Bool, (setV H).formed Tryz.prog 128 = true := fun H => by
    simp only [setV, Value.formed, Tryz.underlying128, Tryz.cellsS]
    rfl
  obtain ⟨r, h1, h2⟩ := run_equalIn_deep 9998 2 128 Tryz.deepS w 2 2 (setV H) (setV H') _ _ (hform H) (hform H') (lits_set 0 (H 0) (H 1) (H 2) (H 3) (H 4) (H 5) (H 6) (H 7)) (lits_set 0 (H' 0) (H' 1) (H' 2) (H' 3) (H' 4) (H' 5) (H' 6) (H' 7))
  refine ⟨r, h1, h2.trans ?_⟩
  constructor
  · intro h q hq
    simp at h
    obtain ⟨e0, e1, e2, e3, e4, e5, e6, e7⟩ := h
    match q, hq with
    | 0, _ => exact e0
    | 1, _ => exact e1
    | 2, _ => exact e2
    | 3, _ => exact e3
    | 4, _ => exact e4
    | 5, _ => exact e5
    | 6, _ => exact e6
    | 7, _ => exact e7
  · intro h
    rw [h 0 (by omega), h 1 (by omega), h 2 (by omega), h 3 (by omega), h 4 (by omega), h 5 (by omega), h 6 (by omega), h 7 (by omega)]

set_option maxRecDepth 100000 in
set_option maxHeartbeats 2000000 in
theorem possible_none (sb : Nat) (H : Nat → Bool) (w : World) (h0 : ∀ q, q < 8 → H q = false) :
    Calls Tryz.prog 98 #[.pointer (some ⟨sb, 0, none⟩), setV H] w fun e w' => e = .returned (.bool true) ∧ Below w.heap.size w w' := by
  obtain ⟨r, hr, hi⟩ := run_eqset H (fun _ => false) (w.alloc (.cells #[.bool (H 0), .bool (H 1), .bool (H 2), .bool (H 3), .bool (H 4), .bool (H 5), .bool (H 6), .bool (H 7)] 128))
  obtain rfl : r = true := hi.2 h0
  unfold setV at hr
  unfold setV
  clear hi h0
  have HB : Hid (Below w.heap.size w (w.alloc (.cells #[.bool (H 0), .bool (H 1), .bool (H 2), .bool (H 3), .bool (H 4), .bool (H 5), .bool (H 6), .bool (H 7)] 128))) := below_alloc1 _ _
  go_enter Tryz.func98, Tryz.ntmps98
  go_wp2
  go_ret
  exact ⟨rfl, HB.out⟩

set_option maxRecDepth 100000 in
set_option maxHeartbeats 2000000 in
theorem possible_some {T : TD} {n sb g mb c : Nat} (hG : Good T n) (hch : ChooseC T n sb g mb c) (H : Nat → Bool) (M : (Nat → Bool) → Option Int) (k : Nat) (w : World) (hcnt : cntS H n = c + 1) (hsub : ∀ q, n ≤ q → H q = false) (henv : SEnv w sb g mb n T) (hmap : SMap w mb k M) (hinv : MInv T n M) (hk : k + 9 ^ (c + 1) ≤ 1000000000) :
  Calls Tryz.prog 98 #[.pointer (some ⟨sb, 0, none⟩), setV H] w fun e w' => ∃ (t : Bool) (M' : (Nat → Bool) → Option Int), e = .returned (.bool t) ∧ (t = true ↔ Poss T n H) ∧ SMap w' mb (k + 9 ^ (c + 1)) M' ∧ MInv T n M' ∧ Ext M M' ∧ (t = true → (∀ q, H q = false) ∨ (M' H).isSome = true) ∧ Fr (fun q => q = mb) w w' := by
  have h8 := hG.eight
  have H8 : Hid (In8 H) := fun q hq => hsub q (by omega)
  have hpow : k + 8 * 9 ^ c + 1 ≤ k + 9 ^ (c + 1) := by
    have : 1 ≤ 9 ^ c := Nat.one_le_pow _ _ (by omega)
    rw [Nat.pow_succ]
    omega
  obtain ⟨r, hr, hi⟩ := run_eqset H (fun _ => false) (w.alloc (.cells #[.bool (H 0), .bool (H 1), .bool (H 2), .bool (H 3), .bool (H 4), .bool (H 5), .bool (H 6), .bool (H 7)] 128))
  obtain rfl : r = false := by
    cases r with
    | false => rfl
    | true =>
      have h0 := hi.1 rfl
      have : ∀ m, m ≤ n → cntS H m = 0 := by
        intro m
        induction m with
        | zero => intro _; rfl
        | succ m ih =>
          intro hm
          simp only [cntS]
          rw [ih (by omega), if_neg (by rw [h0 m (by omega)]; simp)]
      have := this n (Nat.le_refl _)
      omega
  have HF0 : Hid (Fr (fun q => q = mb) w (w.alloc (.cells #[.bool (H 0), .bool (H 1), .bool (H 2), .bool (H 3), .bool (H 4), .bool (H 5), .bool (H 6), .bool (H 7)] 128))) := (Fr.refl _ _).alloc _
  have hm0 : SMap (w.alloc (.cells #[.bool (H 0), .bool (H 1), .bool (H 2), .bool (H 3), .bool (H 4), .bool (H 5), .bool (H 6), .bool (H 7)] 128)) mb k M := hmap.of_block (Deep.blk_alloc_lt _ _ _ hmap.lt)
  have HE0 : Hid (SEnv (w.alloc (.cells #[.bool (H 0), .bool (H 1), .bool (H 2), .bool (H 3), .bool (H 4), .bool (H 5), .bool (H 6), .bool (H 7)] 128)) sb g mb n T) := henv.fr HF0.out
  have y1 := HE0.out.s1
  have hlt := HE0.out.lts
  have HO0 : Hid ((w.alloc (.cells #[.bool (H 0), .bool (H 1), .bool (H 2), .bool (H 3), .bool (H 4), .bool (H 5), .bool (H 6), .bool (H 7)] 128)).rowIs w.heap.size 128 8 (fun q => .bool (H q))) := set_row w H
  obtain ⟨x, hrun, hx⟩ := run_slook (w := (w.alloc (.cells #[.bool (H 0), .bool (H 1), .bool (H 2), .bool (H 3), .bool (H 4), .bool (H 5), .bool (H 6), .bool (H 7)] 128)).drew) H8.out (hm0.of_block rfl)
  have HM0 : Hid (SMap (w.alloc (.cells #[.bool (H 0), .bool (H 1), .bool (H 2), .bool (H 3), .bool (H 4), .bool (H 5), .bool (H 6), .bool (H 7)] 128)) mb k M) := hm0
  have HCH : Hid (ChooseC T n sb g mb c) := hch
  have HINV : Hid (MInv T n M) := hinv
  have HSUB : Hid (∀ q, n ≤ q → H q = false) := hsub
  have HCNT : Hid (cntS H n = c + 1) := hcnt
  have HP1 : Hid ((w.alloc (.cells #[.bool (H 0), .bool (H 1), .bool (H 2), .bool (H 3), .bool (H 4), .bool (H 5), .bool (H 6), .bool (H 7)] 128)).heap[w.heap.size]? = some (.cells #[.bool (H 0), .bool (H 1), .bool (H 2), .bool (H 3), .bool (H 4), .bool (H 5), .bool (H 6), .bool (H 7)] 128 (0, 0))) := row8 HO0.out
  have e0 := HO0.out.cell (i := 0) (by omega)
  have e1 := HO0.out.cell (i := 1) (by omega)
  have e2 := HO0.out.cell (i := 2) (by omega)
  have e3 := HO0.out.cell (i := 3) (by omega)
  have e4 := HO0.out.cell (i := 4) (by omega)
  have e5 := HO0.out.cell (i := 5) (by omega)
  have e6 := HO0.out.cell (i := 6) (by omega)
  have e7 := HO0.out.cell (i := 7) (by omega)
  have hol := HO0.out.lt
  unfold setV at hrun hr
  unfold setV
  clear hG hch henv hmap hinv hsub hcnt hi hm0
  go_enter Tryz.func98, Tryz.ntmps98
  go_wp2
  generalize (w.alloc (.cells #[.bool (H 0), .bool (H 1), .bool (H 2), .bool (H 3), .bool (H 4), .bool (H 5), .bool (H 6), .bool (H 7)] 128)) = W at *
  cases hM : M H with
  | some y =>
    rw [hM] at hrun
    obtain rfl : x = y := hx y hM
    have HC : Hid (Chosen T n M H x) := HINV.out H x H8.out hM
    have HT : Hid ((x != -1) = true ↔ Poss T n H) := chosen_iff HC.out
    have HS : Hid ((M H).isSome = true) := by unfold Hid; rw [hM]; rfl
    clear hx hM
    simp only [Option.isSome_some] at hrun
    go_region
    all_goals
      clear e0 e1 e2 e3 e4 e5 e6 e7 y1 hrun hr
      go_wp2
      go_ret
      exact ⟨_, M, rfl, HT.out, (HM0.out.of_block rfl).mono (Nat.le_add_right _ _), HINV.out, Ext.refl _, fun _ => .inr HS.out, HF0.out.drew⟩
  | none =>
    rw [hM] at hrun
    have HNONE : Hid (M H = none) := hM
    clear hx hM
    simp only [Option.isSome_none] at hrun
    go_region
    all_goals
      clear hrun hr
      go_wp2_with fail
      have HCC : Hid (Calls Tryz.prog 127 #[.pointer (some ⟨sb, 0, none⟩), .agg #[.bool (H 0), .bool (H 1), .bool (H 2), .bool (H 3), .bool (H 4), .bool (H 5), .bool (H 6), .bool (H 7)]] W.drew fun e w' => ∃ (x : Int) (M' : (Nat → Bool) → Option Int), e = .returned (.int .i64 x) ∧ -1 ≤ x ∧ x < n ∧ Chosen T n M' H x ∧ SMap w' mb (k + 8 * 9 ^ c) M' ∧ MInv T n M' ∧ Ext M M' ∧ Fr (fun q => q = mb) W.drew w') :=
        HCH.out H M k W.drew HCNT.out HSUB.out (HE0.out.fr (Fr.refl _ _).drew) (HM0.out.of_block rfl) HINV.out (by omega)
      refine (HCC.out).mono ?_
      rintro e w1 ⟨x1, M1, rfl, hx0, hx1, hcs, hsm1, hmi1, hext1, hfr1⟩
      have hfr2 : Fr (fun q => q = mb) w w1 := HF0.out.drew.then hfr1
      have hne : w.heap.size ≠ mb := by have := HM0.out.lt; have := HE0.out.nes; intro h; subst h; exact absurd (HM0.out.ne HO0.out) (by simp)
      have hro1 : w1.rowIs w.heap.size 128 8 (fun q => .bool (H q)) := hfr1.row (HO0.out.of_block rfl) hne
      have f0 := hro1.cell (i := 0) (by omega)
      have f1 := hro1.cell (i := 1) (by omega)
      have f2 := hro1.cell (i := 2) (by omega)
      have f3 := hro1.cell (i := 3) (by omega)
      have f4 := hro1.cell (i := 4) (by omega)
      have f5 := hro1.cell (i := 5) (by omega)
      have f6 := hro1.cell (i := 6) (by omega)
      have f7 := hro1.cell (i := 7) (by omega)
      have y2 := (HE0.out.fr ((Fr.refl _ _).drew.then hfr1)).s1
      have hl2 := (HE0.out.fr ((Fr.refl _ _).drew.then hfr1)).lts
      have hl3 := hro1.lt
      obtain ⟨w2, hrun2, hsm2, hfr3⟩ := run_sput (w := w1.drew) (x := x1) H8.out (by unfold maxLen; omega) (WalkArith.wf_i64 (by omega)) (hsm1.of_block rfl)
      unfold setV at hrun2
      have HCS : Hid (Chosen T n M1 H x1) := hcs
      have HT : Hid ((x1 != -1) = true ↔ Poss T n H) := chosen_iff hcs
      have HQ1 : Hid (SMap w2 mb (k + 9 ^ (c + 1)) (sput M1 H x1)) := hsm2.mono (by omega)
      have HQ2 : Hid (MInv T n (sput M1 H x1)) := hmi1.put H8.out hcs
      have HQ3 : Hid (Ext M (sput M1 H x1)) := Ext.put H8.out HNONE.out hext1
      have HQ4 : Hid ((sput M1 H x1 H).isSome = true) := by unfold Hid; rw [sput_self]; rfl
      have HQ5 : Hid (Fr (fun q => q = mb) w w2) := hfr2.drew.then hfr3
      clear hro1 hfr1 HCC e0 e1 e2 e3 e4 e5 e6 e7 y1 hcs hsm1 hmi1 hext1 hfr2 hsm2 hfr3 HNONE
      go_wp2_with fail
      go_region
      all_goals
        clear f0 f1 f2 f3 f4 f5 f6 f7 y2 hrun2
        go_wp2
        go_ret
        exact ⟨_, _, rfl, HT.out, HQ1.out, HQ2.out, HQ3.out, fun _ => .inr HQ4.out, HQ5.out⟩

theorem poss_all {T : TD} {n sb g mb : Nat} (hG : Good T n) : ∀ c, PossC T n sb g mb c := by
  intro c
  induction c using Nat.strongRecOn with
  | ind c ih =>
    intro H M k w hcnt hsub henv hmap hinv hk
    rcases Nat.eq_zero_or_pos (cntS H n) with h0 | h0
    · have hz := cntS_zero n h0
      have h8 := hG.eight
      have hall : ∀ q, H q = false := fun q => by
        by_cases hq : q < n
        · exact hz q hq
        · exact hsub q (by omega)
      refine (possible_none sb H w (fun q _ => hall q)).mono ?_
      rintro e w' ⟨rfl, hb⟩
      exact ⟨true, M, rfl, ⟨fun _ => Poss.nobody hz, fun _ => rfl⟩, (hmap.of_block (hb.block _ hmap.lt)).mono (Nat.le_add_right _ _), hinv, Ext.refl _, fun _ => .inl hall, Fr.of_below _ hb⟩
    · obtain ⟨d, hd⟩ : ∃ d, cntS H n = d + 1 := ⟨cntS H n - 1, by omega⟩
      have hle : 9 ^ (d + 1) ≤ 9 ^ c := Nat.pow_le_pow_right (by omega) (by omega)
      refine (possible_some hG (choose_any hG (ih d (by omega))) H M k w hd hsub henv hmap hinv (by omega)).mono ?_
      rintro e w' ⟨t, M', h1, h2, h3, h4⟩
      exact ⟨t, M', h1, h2, h3.mono (by omega), h4⟩

end Go.Proofs.YtdabcflpcklfiaaGreat

/- Priorities are found. -/
namespace Go.Proofs.YtdabcflpcklfiaaGreat
open Go.RowKit

theorem SEnv.of {w w' : World} {sb g mb n : Nat} {T : TD} (h : SEnv w sb g mb n T) (hs : w'.heap[sb]? = w.heap[sb]?) (hg : w'.heap[g]? = w.heap[g]?) (hl : w.heap.size ≤ w'.heap.size) : SEnv w' sb g mb n T := by
  have c : ∀ b q, w'.heap[b]? = w.heap[b]? → w'.cell? ⟨b, q, none⟩ = w.cell? ⟨b, q, none⟩ := fun b q e => by simp [World.cell?, e]
  refine ⟨(c _ _ hs).trans h.s0, (c _ _ hs).trans h.s1, fun i hi => ?_, by have := h.lts; omega, by have := h.ltg; omega, h.nes, h.neg⟩
  have d := fun q => c g q hg
  rw [d, d, d, d, d, d, d, d, d, d, d, d]
  exact h.sys i hi

theorem pair_row (w : World) (a b : Value) (t : Nat) : (w.alloc (.cells #[a, b] t)).rowIs w.heap.size t 2 (fun q => if q = 0 then a else b) :=
  World.rowIs_alloc w #[a, b] t _ (fun i hi => by
    have hi' : i < 2 := hi
    match i, hi' with
    | 0, _ => rfl
    | 1, _ => rfl)

/-- While priorities are given. -/
structure FindInv (T : TD) (n sb g mb ob pb B : Nat) (w wr : World) (p : Nat) : Prop where
  env : SEnv wr sb g mb n T
  row : ∃ H Z M k, Part True T n p H Z ∧ Poss T n H ∧ wr.rowIs ob 128 8 (fun q => .bool (H q)) ∧ wr.rowIs pb 3 n (fun q => .int .i64 (Z q)) ∧ SMap wr mb k M ∧ MInv T n M ∧ ((∀ q, H q = false) ∨ (M H).isSome = true)
  bel : Below B w wr

set_option maxRecDepth 100000 in
set_option maxHeartbeats 2000000 in
theorem find_any (g n : Nat) (T : TD) (w : World) (hG : Good T n) (hg : g < w.heap.size) (hS : SysAt w g n T) :
    Calls Tryz.prog 67 #[.slice (some ⟨g, 0, none⟩) n n] w fun e w' => (e = .returned (.slice none 0 0) ∧ ¬ Poss T n (fun q => decide (q < n)) ∨ ∃ pb Z, e = .returned (.slice (some ⟨pb, 0, none⟩) n n) ∧ w.heap.size ≤ pb ∧ w'.rowIs pb 3 n (fun q => .int .i64 (Z q)) ∧ Cad.PrioB Z n ∧ (∀ i, i < n → Has T n (abv Z n i) i) ∧ (∀ i, i < n → Low T n (fun q => if q < n then decide (Z i ≤ Z q) else false) i)) ∧ Below w.heap.size w w' := by
  obtain ⟨i0, hi0, hq0, hq1, hq2⟩ := info_parts Tryz.info3
  have h8 := hG.eight
  have h1 := hG.one
  have HG : Hid (Good T n) := hG
  have HS : Hid (SysAt w g n T) := hS
  have hmm := @run_makeMap Tryz.prog
  clear hG hS
  have HB0 : Hid (Below w.heap.size w (((w.alloc (.map #[] 0)).alloc (.cells #[.slice (some ⟨g, 0, none⟩) n n, .map (some w.heap.size)] 174)).alloc (.cells #[.bool false, .bool false, .bool false, .bool false, .bool false, .bool false, .bool false, .bool false] 128))) := ((below_alloc1 _ _).alloc (by simp) _).alloc (by simp; omega) _
  have HO0 : Hid ((((w.alloc (.map #[] 0)).alloc (.cells #[.slice (some ⟨g, 0, none⟩) n n, .map (some w.heap.size)] 174)).alloc (.cells #[.bool false, .bool false, .bool false, .bool false, .bool false, .bool false, .bool false, .bool false] 128)).rowIs (w.heap.size + 1 + 1) 128 8 fls) := false8 _ 128 _ (by simp)
  have HM0 : Hid (SMap (((w.alloc (.map #[] 0)).alloc (.cells #[.slice (some ⟨g, 0, none⟩) n n, .map (some w.heap.size)] 174)).alloc (.cells #[.bool false, .bool false, .bool false, .bool false, .bool false, .bool false, .bool false, .bool false] 128)) w.heap.size 0 (fun _ => none)) := (SMap.made w).of_block ((Deep.blk_alloc_lt _ _ _ (by simp; omega)).trans (Deep.blk_alloc_lt _ _ _ (by simp)))
  have HE0 : Hid (SEnv (((w.alloc (.map #[] 0)).alloc (.cells #[.slice (some ⟨g, 0, none⟩) n n, .map (some w.heap.size)] 174)).alloc (.cells #[.bool false, .bool false, .bool false, .bool false, .bool false, .bool false, .bool false, .bool false] 128)) (w.heap.size + 1) g w.heap.size n T) := by
    have hp : (((w.alloc (.map #[] 0)).alloc (.cells #[.slice (some ⟨g, 0, none⟩) n n, .map (some w.heap.size)] 174)).alloc (.cells #[.bool false, .bool false, .bool false, .bool false, .bool false, .bool false, .bool false, .bool false] 128)).rowIs (w.heap.size + 1) 174 2 (fun q => if q = 0 then .slice (some ⟨g, 0, none⟩) n n else .map (some w.heap.size)) := by
      have := (pair_row (w.alloc (.map #[] 0)) (.slice (some ⟨g, 0, none⟩) n n) (.map (some w.heap.size)) 174).alloc (.cells #[.bool false, .bool false, .bool false, .bool false, .bool false, .bool false, .bool false, .bool false] 128)
      rw [World.size_alloc] at this
      exact this
    exact ⟨hp.cell (i := 0) (by omega), hp.cell (i := 1) (by omega), SysAt.below HS.out hg HB0.out, hp.lt, by have := HB0.out.size; omega, by omega, by omega⟩
  go_enter Tryz.func67, Tryz.ntmps67
  go_wp2
  generalize (((w.alloc (.map #[] 0)).alloc (.cells #[.slice (some ⟨g, 0, none⟩) n n, .map (some w.heap.size)] 174)).alloc (.cells #[.bool false, .bool false, .bool false, .bool false, .bool false, .bool false, .bool false, .bool false] 128)) = W0 at *
  generalize hob : w.heap.size + 1 + 1 = ob at *
  generalize hsb : w.heap.size + 1 = sb at *
  have hmb : ob ≠ w.heap.size := by omega
  have hos : ob ≠ sb := by omega
  have hog : ob ≠ g := by omega
  have hBo : w.heap.size ≤ ob := by omega
  clear hmm
  go_loopw [14] (fun iv wr => ∃ k : Nat, k ≤ n ∧ iv = .int .i64 k ∧ wr.rowIs ob 128 8 (fun q => .bool (decide (q < k))) ∧ Fr (fun q => q = ob) W0 wr) (fun iv _ => n - (intOf iv).toNat)
  case atStart => exact ⟨0, Nat.zero_le _, rfl, HO0.out.congr (fun q _ => by simp [fls]), Fr.refl _ _⟩
  case round =>
    obtain ⟨k, hk, rfl, hro, hfr⟩ := hrel
    by_cases hlt : k < n
    · have x0 : wr.cell? ⟨ob, k, none⟩ = some (.bool (decide (k < k))) := hro.cell (by omega)
      have z0 := hro.frozen k
      have FH : Hid ((wr.setCell ⟨ob, k, none⟩ (.bool true)).rowIs ob 128 8 (fun q => .bool (decide (q < k + 1)))) := (hro.set k _).congr (fun q _ => by
        by_cases e : q = k
        · subst e; simp
        · rw [if_neg e]
          congr 1
          simp only [decide_eq_decide]
          omega)
      have FR : Hid (Fr (fun q => q = ob) W0 (wr.setCell ⟨ob, k, none⟩ (.bool true))) := hfr.setCell (.inl rfl) _
      have hk8 : (k : Int) < 8 := by omega
      clear hro hfr
      go_wp2
      go_roundw
      case rel => exact ⟨k + 1, by omega, by go_num, FH.out, FR.out⟩
      case measure => simp [intOf]; omega
    · obtain rfl : k = n := by omega
      have HRO : Hid (wr.rowIs ob 128 8 (fun q => .bool (decide (q < k)))) := hro
      have HFR : Hid (Fr (fun q => q = ob) W0 wr) := hfr
      have HE1 : Hid (SEnv wr sb g w.heap.size k T) := HE0.out.of (hfr.block _ HE0.out.lts (Ne.symm hos)) (hfr.block _ HE0.out.ltg (Ne.symm hog)) hfr.size
      have HM1 : Hid (SMap wr w.heap.size 0 (fun _ => none)) := HM0.out.of_block (hfr.block _ HM0.out.lt (Ne.symm hmb))
      have HB1 : Hid (Below w.heap.size w wr) := HB0.out.trans (hfr.below HB0.out.size (fun q hq => by omega))
      have HP1 : Hid (wr.heap[ob]? = some (.cells #[.bool (decide (0 < k)), .bool (decide (1 < k)), .bool (decide (2 < k)), .bool (decide (3 < k)), .bool (decide (4 < k)), .bool (decide (5 < k)), .bool (decide (6 < k)), .bool (decide (7 < k))] 128 (0, 0))) := row8 hro
      clear hro hfr HE0 HM0 HB0 HO0
      have HCALL : Hid (Calls Tryz.prog 98 #[.pointer (some ⟨sb, 0, none⟩), .agg #[.bool (decide (0 < k)), .bool (decide (1 < k)), .bool (decide (2 < k)), .bool (decide (3 < k)), .bool (decide (4 < k)), .bool (decide (5 < k)), .bool (decide (6 < k)), .bool (decide (7 < k))]] wr fun e w' => ∃ (t : Bool) (M' : (Nat → Bool) → Option Int), e = .returned (.bool t) ∧ (t = true ↔ Poss T k (fun q => decide (q < k))) ∧ SMap w' w.heap.size (0 + 9 ^ k) M' ∧ MInv T k M' ∧ Ext (fun _ => none) M' ∧ (t = true → (∀ q, (fun q => decide (q < k)) q = false) ∨ (M' (fun q => decide (q < k))).isSome = true) ∧ Fr (fun q => q = w.heap.size) wr w') := by
        refine (poss_all HG.out k (fun q => decide (q < k)) (fun _ => none) 0 wr (cntS_le _) (fun q hq => by simpa using hq) HE1.out HM1.out (fun H x _ h => by cases h) ?_)
        have : 9 ^ k ≤ 9 ^ 8 := Nat.pow_le_pow_right (by omega) h8
        omega
      go_wp2_with (refine wpList_load_row rfl 128 (.tmp 4) rfl ob rfl 128 #[.bool (decide (0 < k)), .bool (decide (1 < k)), .bool (decide (2 < k)), .bool (decide (3 < k)), .bool (decide (4 < k)), .bool (decide (5 < k)), .bool (decide (6 < k)), .bool (decide (7 < k))] (0, 0) _ HP1.out Tryz.underlying128 rfl (by kernel_rfl) ?_)
      refine (HCALL.out).mono ?_
      rintro e w2 ⟨t, M2, rfl, hposs, hsm, hmi, _, hin, hfr2⟩
      have HFR2 : Hid (Fr (fun q => q = w.heap.size) wr w2) := hfr2
      have HB2 : Hid (Below w.heap.size w w2) := HB1.out.trans (hfr2.below HB1.out.size (fun q hq => by omega))
      cases t with
      | false =>
        have hno : Hid (¬ Poss T k (fun q => decide (q < k))) := fun h => by have := hposs.2 h; cases this
        clear hposs hsm hmi hin hfr2 HCALL
        go_wp2
        go_ret
        exact ⟨.inl ⟨rfl, hno.out⟩, HB2.out⟩
      | true =>
        have HPO : Hid (Poss T k (fun q => decide (q < k))) := hposs.1 rfl
        have HIN : Hid ((∀ q, (fun q => decide (q < k)) q = false) ∨ (M2 (fun q => decide (q < k))).isSome = true) := hin rfl
        have HSM2 : Hid (SMap w2 w.heap.size (0 + 9 ^ k) M2) := hsm
        have HMI2 : Hid (MInv T k M2) := hmi
        have HRO2 : Hid (w2.rowIs ob 128 8 (fun q => .bool (decide (q < k)))) := hfr2.row HRO.out hmb
        have HE2 : Hid (SEnv w2 sb g w.heap.size k T) := HE1.out.fr hfr2
        clear hposs hsm hmi hin hfr2 HCALL
        go_wp2_with (at_make; refine wpList_make_is _ rfl _ _ 23 rfl 3 i0 _ 1 8 Tryz.underlying23 hi0 hq0 hq1 hq2 _ _ _ _ k rfl rfl (by omega) (by omega) (by omega) (by omega) z1 zero_1 ?_)
        intro w3 hr3 hg3 hs3
        have hb3 : Below w2.heap.size w2 w3 := (Below.refl _ _).grown hg3 (Nat.le_refl _) (fun k hk => by cases hk)
        have hr3' : w3.rowIs w2.heap.size 3 k z1 := by simpa using hr3
        have hl2 := HRO2.out.lt
        have hb2 := HB2.out.size
        have HI3 : Hid (FindInv T k sb g w.heap.size ob w2.heap.size w.heap.size w w3 0) := ⟨HE2.out.of (hb3.block _ HE2.out.lts) (hb3.block _ HE2.out.ltg) hb3.size, ⟨fun q => decide (q < k), fun _ => 0, M2, _, Part.start, HPO.out, HRO2.out.of_block (hb3.block _ hl2), hr3', HSM2.out.of_block (hb3.block _ HSM2.out.lt), HMI2.out, HIN.out⟩, HB2.out.trans (hb3.mono (by omega))⟩
        generalize hpb : w2.heap.size = pb at *
        have hpo : pb ≠ ob := by omega
        have hps : pb ≠ sb := by have := HE2.out.lts; omega
        have hpg : pb ≠ g := by omega
        have hpm : pb ≠ w.heap.size := by omega
        have hBp : w.heap.size ≤ pb := by omega
        clear hr3 hg3 hs3 hb3 hr3' HRO2 HE2 HSM2 HMI2 HIN HPO HB2 HFR2 HRO HFR HE1 HM1 HB1 HP1
        go_wp2_with fail
        go_loopw [28] (fun pv wr => ∃ p : Nat, p ≤ k ∧ pv = .int .i64 p ∧ FindInv T k sb g w.heap.size ob pb w.heap.size w wr p) (fun pv _ => k - (intOf pv).toNat)
        case atStart => exact ⟨0, Nat.zero_le _, rfl, HI3.out⟩
        case round =>
          obtain ⟨p, hp, rfl, hinv⟩ := hrel
          obtain ⟨henv, ⟨H, Z, M, kk, hpart, hpos, hro, hrz, hsm, hmi, hin⟩, hbel⟩ := hinv
          have HENV : Hid (SEnv wr sb g w.heap.size k T) := henv
          have HPART : Hid (Part True T k p H Z) := hpart
          have HRO : Hid (wr.rowIs ob 128 8 (fun q => .bool (H q))) := hro
          have HRZ : Hid (wr.rowIs pb 3 k (fun q => .int .i64 (Z q))) := hrz
          have HSM : Hid (SMap wr w.heap.size kk M) := hsm
          have HMI : Hid (MInv T k M) := hmi
          have HBL : Hid (Below w.heap.size w wr) := hbel
          by_cases hlt : p < k
          · have hne : ∃ q, H q = true := by
              refine Classical.byContradiction fun hno => ?_
              have h0 : ∀ m, cntS H m = 0 := by
                intro m
                induction m with
                | zero => rfl
                | succ m ih =>
                  simp only [cntS]
                  rw [ih, if_neg (fun h => hno ⟨m, h⟩)]
              have := hpart.cnt
              rw [h0] at this
              omega
            have h8H : In8 H := fun q hq => hpart.sub q (by omega)
            obtain ⟨x, hx⟩ : ∃ x, M H = some x := by
              rcases hin with h | h
              · obtain ⟨q, hq⟩ := hne
                rw [h q] at hq
                cases hq
              · exact Option.isSome_iff_exists.1 h
            obtain ⟨i, rfl, hlow, hnext⟩ : ∃ i : Nat, x = i ∧ Low T k H i ∧ ((∀ q, dropI H i q = false) ∨ (M (dropI H i)).isSome = true) := by
              rcases hmi H x h8H hx with ⟨_, h⟩ | h
              · exact absurd hpos h
              · exact h
            have hik := hlow.1
            have hrun := run_slook1 h8H hsm hx
            unfold setV at hrun
            have y1 := henv.s1
            have hls := henv.lts
            have HLOW : Hid (Low T k H i) := hlow
            have HNEXT : Hid ((∀ q, dropI H i q = false) ∨ (M (dropI H i)).isSome = true) := hnext
            have x0 : wr.cell? ⟨pb, i, none⟩ = some (.int .i64 (Z i)) := hrz.cell hik
            have z0 := hrz.frozen i
            have HP1 : Hid (wr.heap[ob]? = some (.cells #[.bool (H 0), .bool (H 1), .bool (H 2), .bool (H 3), .bool (H 4), .bool (H 5), .bool (H 6), .bool (H 7)] 128 (0, 0))) := row8 hro
            have HP2 : Hid ((wr.setCell ⟨pb, i, none⟩ (.int .i64 p)).heap[ob]? = some (.cells #[.bool (H 0), .bool (H 1), .bool (H 2), .bool (H 3), .bool (H 4), .bool (H 5), .bool (H 6), .bool (H 7)] 128 (0, 0))) := row8 (hro.setOther (by show ob ≠ pb; omega) _)
            clear henv hpart hro hrz hsm hmi hbel hpos hin hne hx hlow hnext
            go_wp2_with (first | (refine wpList_load_row rfl 128 (.tmp 4) rfl ob rfl 128 #[.bool (H 0), .bool (H 1), .bool (H 2), .bool (H 3), .bool (H 4), .bool (H 5), .bool (H 6), .bool (H 7)] (0, 0) _ HP1.out Tryz.underlying128 rfl (by kernel_rfl) ?_) | (refine wpList_load_row rfl 128 (.tmp 4) rfl ob rfl 128 #[.bool (H 0), .bool (H 1), .bool (H 2), .bool (H 3), .bool (H 4), .bool (H 5), .bool (H 6), .bool (H 7)] (0, 0) _ HP2.out Tryz.underlying128 rfl (by kernel_rfl) ?_))
            refine (without_any H i (wr.setCell ⟨pb, i, none⟩ (.int .i64 p)) (by omega)).mono ?_
            rintro e w4 ⟨rfl, hb4⟩
            have hs4 : wr.heap.size ≤ w4.heap.size := by have := hb4.size; simpa using this
            have hoth : ∀ q, q < wr.heap.size → q ≠ pb → w4.heap[q]? = wr.heap[q]? := fun q hq hne => (hb4.block q (by simpa using hq)).trans (Deep.blk_setCell_other _ _ _ _ hne)
            have HR2 : Hid (w4.heap[ob]? = some (.cells #[.bool (H 0), .bool (H 1), .bool (H 2), .bool (H 3), .bool (H 4), .bool (H 5), .bool (H 6), .bool (H 7)] 128 (0, 0))) := (hoth _ HRO.out.lt (by omega)).trans HP1.out
            have HINV : Hid (FindInv T k sb g w.heap.size ob pb w.heap.size w (w4.setRow ob #[.bool (dropI H i 0), .bool (dropI H i 1), .bool (dropI H i 2), .bool (dropI H i 3), .bool (dropI H i 4), .bool (dropI H i 5), .bool (dropI H i 6), .bool (dropI H i 7)]) (p + 1)) := by
              have h5 : ∀ q, q < wr.heap.size → q ≠ pb → q ≠ ob → (w4.setRow ob #[.bool (dropI H i 0), .bool (dropI H i 1), .bool (dropI H i 2), .bool (dropI H i 3), .bool (dropI H i 4), .bool (dropI H i 5), .bool (dropI H i 6), .bool (dropI H i 7)]).heap[q]? = wr.heap[q]? := fun q hq h1 h2 => (setRow_other _ _ _ _ h2).trans (hoth q hq h1)
              have hrz : (w4.setRow ob #[.bool (dropI H i 0), .bool (dropI H i 1), .bool (dropI H i 2), .bool (dropI H i 3), .bool (dropI H i 4), .bool (dropI H i 5), .bool (dropI H i 6), .bool (dropI H i 7)]).rowIs pb 3 k (fun q => .int .i64 (updZ Z i p q)) := by
                refine (row_set_int HRZ.out i (p : Int)).of_block ((setRow_other _ _ _ _ hpo).trans (hb4.block _ (by simpa using HRZ.out.lt)))
              refine ⟨HENV.out.of (h5 _ HENV.out.lts (Ne.symm hps) (Ne.symm hos)) (h5 _ HENV.out.ltg (Ne.symm hpg) (Ne.symm hog)) (by simpa using hs4), ⟨dropI H i, updZ Z i p, M, kk, HPART.out.next HLOW.out.1 HLOW.out.2.1 HLOW.out.2.2.1 (fun _ => HLOW.out), HLOW.out.2.2.2.1, row_of8 (setRow_heap _ _ _ _ _ _ HR2.out), hrz, HSM.out.of_block (h5 _ HSM.out.lt (Ne.symm hpm) (Ne.symm hmb)), HMI.out, HNEXT.out⟩, ?_⟩
              have hb5 := HBL.out.size
              have hbs : Below w.heap.size w (wr.setCell ⟨pb, i, none⟩ (.int .i64 p)) := HBL.out.setCell hBp _
              have hba : Below w.heap.size w w4 := hbs.trans (hb4.mono (by simpa using hb5))
              exact ⟨hba.os, hba.tape, hba.output, by simpa using hba.size, fun q hq => (setRow_other _ _ _ _ (by omega)).trans (hba.block q hq)⟩
            clear hb4 hs4 hoth x0 z0 y1 hrun HP1 HP2 HENV HPART HRO HRZ HSM HMI HBL HLOW HNEXT
            unfold setV
            go_wp2_with (refine wpList_store_row rfl 128 (.tmp 4) (.tmp 41) rfl ob #[.bool (dropI H i 0), .bool (dropI H i 1), .bool (dropI H i 2), .bool (dropI H i 3), .bool (dropI H i 4), .bool (dropI H i 5), .bool (dropI H i 6), .bool (dropI H i 7)] rfl rfl 128 #[.bool (H 0), .bool (H 1), .bool (H 2), .bool (H 3), .bool (H 4), .bool (H 5), .bool (H 6), .bool (H 7)] HR2.out (by kernel_rfl) rfl (all8 _ _ _ _ _ _ _ _) ?_)
            go_wp2
            go_roundw
            case rel => exact ⟨p + 1, by omega, by go_num, HINV.out⟩
            case measure => simp [intOf]; omega
          · obtain rfl : p = k := by omega
            have HD : Hid (Cad.PrioB Z p ∧ (∀ i, i < p → Has T p (abv Z p i) i) ∧ (True → ∀ i, i < p → Low T p (fun q => if q < p then decide (Z i ≤ Z q) else false) i)) := hpart.done
            clear henv hpart hro hrz hsm hmi hbel hpos hin
            go_wp2
            go_ret
            exact ⟨.inr ⟨pb, Z, rfl, hBp, HRZ.out, HD.out.1, HD.out.2.1, HD.out.2.2 trivial⟩, HBL.out⟩

end Go.Proofs.YtdabcflpcklfiaaGreat

/- Assign, and the law Found. -/
namespace Go.Proofs.YtdabcflpcklfiaaGreat
open Go.RowKit

set_option maxRecDepth 100000 in
set_option maxHeartbeats 1000000 in
theorem assign_err (so : Option Addr) (n cap : Nat) (x y : Int) (w : World) (hx : x ≠ 0) (hC : Calls Tryz.prog 66 #[.slice so n cap] w fun e w' => e = .returned (.tuple #[.int .i64 x, .int .i64 y]) ∧ Below w.heap.size w w') :
    Calls Tryz.prog 39 #[.slice so n cap] w fun e w' => e = .returned (.tuple #[.slice none 0 0, .int .i64 x, .int .i64 y]) ∧ Below w.heap.size w w' := by
  have HC : Hid (Calls Tryz.prog 66 #[.slice so n cap] w fun e w' => e = .returned (.tuple #[.int .i64 x, .int .i64 y]) ∧ Below w.heap.size w w') := hC
  have hd : (x != 0) = true := by simpa using hx
  clear hC hx
  go_enter Tryz.func39, Tryz.ntmps39
  go_wp2_with fail
  refine (HC.out).mono ?_
  rintro e w1 ⟨rfl, hb1⟩
  have HB1 : Hid (Below w.heap.size w w1) := hb1
  clear hb1
  go_wp2
  go_ret3
  exact ⟨rfl, HB1.out⟩

theorem nilI (w : World) (a : Option Addr) (n c : Nat) : (binOp .eql 23 (.slice a n c) (.slice none 0 0)).run Tryz.prog w = .ok (.bool a.isNone) w := Lib.run_eql_slice_nil w 23 3 a n c 0 0 Tryz.underlying23

set_option maxRecDepth 100000 in
set_option maxHeartbeats 1000000 in
theorem assign_ok (b off n cap : Nat) (T : TD) (w : World) (hc : chkR T n = (0, 0)) (hb : b < w.heap.size) (hT : TasksAt w b off n T) :
    Calls Tryz.prog 39 #[.slice (some ⟨b, off, none⟩) n cap] w fun e w' => (e = .returned (.tuple #[.slice none 0 0, .int .i64 10, .int .i64 0]) ∧ ¬ Poss T n (fun q => decide (q < n)) ∨ ∃ pb Z, e = .returned (.tuple #[.slice (some ⟨pb, 0, none⟩) n n, .int .i64 0, .int .i64 0]) ∧ w.heap.size ≤ pb ∧ w'.rowIs pb 3 n (fun q => .int .i64 (Z q)) ∧ Cad.PrioB Z n ∧ (∀ i, i < n → Has T n (abv Z n i) i) ∧ (∀ i, i < n → Low T n (fun q => if q < n then decide (Z i ≤ Z q) else false) i)) ∧ Below w.heap.size w w' := by
  have hG := (good_of_chk hc).1
  have h8 := hG.eight
  have HG : Hid (Good T n) := hG
  have HC : Hid (chkR T n = (0, 0)) := hc
  have HT : Hid (TasksAt w b off n T) := hT
  clear hT hc hG
  have hnil := nilI
  go_enter Tryz.func39, Tryz.ntmps39
  go_wp2_with fail
  refine (check_all b off n cap T w 0 0 HC.out (by omega) hb HT.out).mono ?_
  rintro e w1 ⟨rfl, hb1⟩
  have HB1 : Hid (Below w.heap.size w w1) := hb1
  have hs1 := hb1.size
  clear hb1
  go_wp2_with fail
  refine (of_any b off n cap T w1 HG.out (by omega) (TasksAt.below HT.out hb HB1.out)).mono ?_
  rintro e w2 ⟨rfl, hsys, hlt, hb2⟩
  have HSYS : Hid (SysAt w2 w1.heap.size n T) := hsys
  have HB2 : Hid (Below w.heap.size w w2) := HB1.out.trans (hb2.mono hs1)
  have hs2 := HB2.out.size
  clear hsys hb2
  go_wp2_with fail
  refine (find_any w1.heap.size n T w2 HG.out hlt HSYS.out).mono ?_
  rintro e w3 ⟨⟨rfl, hno⟩ | ⟨pb, Z, rfl, hpb, hrow, hpr, hhas, hlow⟩, hb3⟩
  · have HNO : Hid (¬ Poss T n (fun q => decide (q < n))) := hno
    have HB3 : Hid (Below w.heap.size w w3) := HB2.out.trans (hb3.mono hs2)
    clear hno hb3
    go_wp2
    go_ret3
    exact ⟨.inl ⟨rfl, HNO.out⟩, HB3.out⟩
  · have HROW : Hid (w3.rowIs pb 3 n (fun q => .int .i64 (Z q))) := hrow
    have HPR : Hid (Cad.PrioB Z n) := hpr
    have HHAS : Hid (∀ i, i < n → Has T n (abv Z n i) i) := hhas
    have HLOW : Hid (∀ i, i < n → Low T n (fun q => if q < n then decide (Z i ≤ Z q) else false) i) := hlow
    have HB3 : Hid (Below w.heap.size w w3) := HB2.out.trans (hb3.mono hs2)
    clear hrow hpr hhas hlow hb3
    go_wp2
    go_ret3
    exact ⟨.inr ⟨pb, Z, rfl, by omega, HROW.out, HPR.out, HHAS.out, HLOW.out⟩, HB3.out⟩

theorem check_errs (so : Option Addr) (n cap : Nat) (T : TD) (w : World) (hm : n ≤ 9223372036854775807) (hT : 1 ≤ n → ∃ b off, so = some ⟨b, off, none⟩ ∧ b < w.heap.size ∧ TasksAt w b off n T) (x y : Int) (hc : chkR T n = (x, y)) :
    ∀ w', Below w.heap.size w w' → Calls Tryz.prog 66 #[.slice so n cap] w' fun e w'' => e = .returned (.tuple #[.int .i64 x, .int .i64 y]) ∧ Below w'.heap.size w' w'' := by
  intro w' hb'
  by_cases h1 : 1 ≤ n
  · obtain ⟨b, off, rfl, hb, hTb⟩ := hT h1
    have := hb'.size
    exact check_all b off n cap T w' x y hc hm (by omega) (TasksAt.below hTb hb hb')
  · unfold chkR at hc
    rw [if_neg (by omega)] at hc
    cases hc
    refine (check_many so n cap w' (by omega) hm).mono ?_
    rintro e w'' ⟨rfl, rfl⟩
    exact ⟨rfl, Below.refl _ _⟩

end Go.Proofs.YtdabcflpcklfiaaGreat

/- The document's Assign, walked; and the law Assigned. -/
namespace Go.Proofs.YtdabcflpcklfiaaGreat
open Go.RowKit

theorem Tryz.info4 : (Tryz.prog.info? 4).map (fun i => (i.zero, i.size, i.bytes)) = some (some (.bool false), 1, 1) := by kernel_rfl

theorem zero_b (q : Nat) : ((Value.bool false).cells[q % (Value.bool false).cells.size]!) = fls q := by
  have h : q % 1 = 0 := Nat.mod_one q
  show (#[Value.bool false] : Array Value)[q % 1]! = _
  rw [h]
  rfl

set_option maxRecDepth 100000 in
set_option maxHeartbeats 1000000 in
theorem refassign_err (so : Option Addr) (n cap : Nat) (x y : Int) (w : World) (hx : x ≠ 0) (hC : Calls Tryz.prog 42 #[.slice so n cap] w fun e w' => e = .returned (.tuple #[.int .i64 x, .int .i64 y]) ∧ Below w.heap.size w w') :
    Calls Tryz.prog 40 #[.slice so n cap] w fun e w' => e = .returned (.tuple #[.slice none 0 0, .int .i64 x, .int .i64 y]) ∧ Below w.heap.size w w' := by
  have HC : Hid (Calls Tryz.prog 42 #[.slice so n cap] w fun e w' => e = .returned (.tuple #[.int .i64 x, .int .i64 y]) ∧ Below w.heap.size w w') := hC
  have hd : (x != 0) = true := by simpa using hx
  clear hC hx
  go_enter Tryz.func40, Tryz.ntmps40
  go_wp2_with fail
  refine (HC.out).mono ?_
  rintro e w1 ⟨rfl, hb1⟩
  have HB1 : Hid (Below w.heap.size w w1) := hb1
  clear hb1
  go_wp2
  go_ret3
  exact ⟨rfl, HB1.out⟩

/-- The document's search in memory: who has a priority, and which. -/
structure RefAt (w wr : World) (gb pb n p : Nat) (T : TD) (H : Nat → Bool) (Z : Nat → Int) : Prop where
  part : RefPart T n p H Z
  rg : wr.rowIs gb 4 n (fun q => .bool (!H q))
  rp : wr.rowIs pb 3 n (fun q => .int .i64 (Z q))
  bel : Below w.heap.size w wr

theorem RefAt.next {w wr : World} {gb pb n p : Nat} {T : TD} {H : Nat → Bool} {Z : Nat → Int} (hG : Good T n) (h : RefAt w wr gb pb n p T H Z) (hgb : w.heap.size ≤ gb) (hpb : w.heap.size ≤ pb) {f : Nat} (hf : f < n) (hH : H f = true) (hb : Has T n (dropI H f) f) (hmax : ∀ j, f < j → j < n → H j = true → ¬ Has T n (dropI H j) j) :
    RefAt w ((wr.setCell ⟨gb, f, none⟩ (.bool true)).setCell ⟨pb, f, none⟩ (.int .i64 p)) gb pb n (p + 1) T (dropI H f) (updZ Z f p) := by
  have hne : gb ≠ pb := rows_ne h.rg h.rp (by decide)
  refine ⟨h.part.next hG hf hH hb hmax, ?_, ?_, (h.bel.setCell hgb _).setCell hpb _⟩
  · refine ((h.rg.set f (.bool true)).setOther (by simpa using hne) _).congr (fun q _ => ?_)
    unfold dropI
    by_cases e : q = f
    · rw [if_pos e, if_pos e]; rfl
    · rw [if_neg e, if_neg e]
  · exact row_set_int (h.rp.setOther (by simpa using hne.symm) _) f p

set_option maxRecDepth 100000 in
set_option maxHeartbeats 2000000 in
theorem refassign_ok (b off n cap : Nat) (T : TD) (w : World) (hc : chkR T n = (0, 0)) (hb : b < w.heap.size) (hT : TasksAt w b off n T) :
    Calls Tryz.prog 40 #[.slice (some ⟨b, off, none⟩) n cap] w fun e w' => (e = .returned (.tuple #[.slice none 0 0, .int .i64 10, .int .i64 0]) ∧ ¬ Poss T n (fun q => decide (q < n)) ∨ ∃ pb Z, e = .returned (.tuple #[.slice (some ⟨pb, 0, none⟩) n n, .int .i64 0, .int .i64 0]) ∧ w'.rowIs pb 3 n (fun q => .int .i64 (Z q)) ∧ Cad.PrioB Z n ∧ (∀ i, i < n → Low T n (fun q => if q < n then decide (Z i ≤ Z q) else false) i)) ∧ Below w.heap.size w w' := by
  obtain ⟨i0, hi0, hq0, hq1, hq2⟩ := info_parts Tryz.info3
  obtain ⟨i4, hi4, hp0, hp1, hp2⟩ := info_parts Tryz.info4
  have hG := (good_of_chk hc).1
  have h8 := hG.eight
  have HG : Hid (Good T n) := hG
  have HC : Hid (chkR T n = (0, 0)) := hc
  have HT : Hid (TasksAt w b off n T) := hT
  clear hT hc hG
  go_enter Tryz.func40, Tryz.ntmps40
  go_wp2_with fail
  refine (ref_all b off n cap T _ 0 0 HC.out (by omega) hb HT.out).mono ?_
  rintro e w1 ⟨rfl, hb1⟩
  have HB1 : Hid (Below w.heap.size w w1) := hb1
  have hs1 := hb1.size
  clear hb1
  go_wp2_with (at_make; refine wpList_make_is _ rfl _ _ 134 rfl 4 i4 _ 1 1 Tryz.underlying134 hi4 hp0 hp1 hp2 _ _ _ _ n rfl rfl (by omega) (by omega) (by omega) (by omega) fls zero_b ?_)
  intro w2 hr2 hg2 hs2
  have HB2 : Hid (Below w.heap.size w w2) := HB1.out.grown hg2 (by omega) (fun k hk => by cases hk)
  have HR2 : Hid (w2.rowIs w1.heap.size 4 n (fun q => .bool (!decide (q < n)))) := by
    have : w2.rowIs w1.heap.size 4 n fls := by simpa using hr2
    exact this.congr (fun q hq => by simp [hq, fls])
  have hgb : w.heap.size ≤ w1.heap.size := by omega
  have hs2' : w.heap.size ≤ w2.heap.size := by omega
  generalize w1.heap.size = gb at *
  clear hr2 hg2 hs2
  go_wp2_with (at_make; refine wpList_make_is _ rfl _ _ 23 rfl 3 i0 _ 1 8 Tryz.underlying23 hi0 hq0 hq1 hq2 _ _ _ _ n rfl rfl (by omega) (by omega) (by omega) (by omega) z1 zero_1 ?_)
  intro w3 hr3 hg3 hs3
  have HB3 : Hid (Below w.heap.size w w3) := HB2.out.grown hg3 (by omega) (fun k hk => by cases hk)
  have HR3 : Hid (w3.rowIs w2.heap.size 3 n (fun q => .int .i64 ((fun _ => (0 : Int)) q))) := by
    have : w3.rowIs w2.heap.size 3 n z1 := by simpa using hr3
    exact this
  have HG3 : Hid (w3.rowIs gb 4 n (fun q => .bool (!decide (q < n)))) := HR2.out.of_block (hg3.block _ HR2.out.lt (by simp))
  have hpb : w.heap.size ≤ w2.heap.size := by omega
  generalize w2.heap.size = pb at *
  have HST : Hid (RefAt w w3 gb pb n 0 T (fun q => decide (q < n)) (fun _ => 0)) := ⟨RefPart.start, HG3.out, HR3.out, HB3.out⟩
  clear hr3 hg3 HB1 HB2 HR2 HB3 HR3 HG3 hs3
  go_wp2_with fail
  go_loopw [10] (fun lv wr => ∃ (p : Nat) (H : Nat → Bool) (Z : Nat → Int), p ≤ n ∧ lv = .int .i64 p ∧ RefAt w wr gb pb n p T H Z) (fun lv _ => n - (intOf lv).toNat)
  case atStart => exact ⟨0, _, _, Nat.zero_le _, rfl, HST.out⟩
  case round =>
    clear HST
    obtain ⟨p, H, Z, hp, rfl, hat⟩ := hrel
    have HAT : Hid (RefAt w wr gb pb n p T H Z) := hat
    clear hat
    by_cases hlt : p < n
    · go_wp2_with fail
      go_loopw [11, 12] (fun fv iv wr => ∃ i : Nat, i ≤ n ∧ iv = .int .i64 i ∧ RefAt w wr gb pb n p T H Z ∧ ((fv = .int .i64 (-1) ∧ ∀ j, j < i → H j = true → ¬ Has T n (dropI H j) j) ∨ ∃ f : Nat, fv = .int .i64 f ∧ f < i ∧ H f = true ∧ Has T n (dropI H f) f ∧ ∀ j, f < j → j < i → H j = true → ¬ Has T n (dropI H j) j)) (fun _ iv _ => n - (intOf iv).toNat)
      case atStart => exact ⟨0, Nat.zero_le _, rfl, HAT.out, .inl ⟨rfl, fun j hj => by omega⟩⟩
      case round =>
        clear HAT
        obtain ⟨i, hi, rfl, hat, hfo⟩ := hrel
        have HAT : Hid (RefAt w wr gb pb n p T H Z) := hat
        clear hat
        by_cases hil : i < n
        · have y1 : wr.cell? ⟨gb, i, none⟩ = some (.bool (!H i)) := HAT.out.rg.cell hil
          have hgl := HAT.out.rg.lt
          have hpl := HAT.out.rp.lt
          have hsz := HAT.out.bel.size
          rcases Bool.eq_false_or_eq_true (H i) with hg | hg
          · rw [hg] at y1
            have HG1 : Hid (H i = true) := hg
            clear hg
            obtain ⟨hpr, hab⟩ := try_prio HAT.out.part.part hil HG1.out
            have HPR : Hid (Cad.PrioB (tryZ H Z i p) n) := hpr
            have HAB : Hid (abv (tryZ H Z i p) n i = dropI H i) := hab
            clear hpr hab
            go_wp2_with fail
            refine (tried_any pb gb n n n i p H Z wr h8 hil HG1.out (by omega) hpl hgl HAT.out.rp HAT.out.rg).mono ?_
            rintro e w5 ⟨v, rfl, hown5, hb5⟩
            obtain ⟨qo, qc, hqv, hqi⟩ := outY_own hown5
            subst hqv
            obtain ⟨qb, qf, hqe, hqq⟩ := hqi (by omega)
            subst hqe
            have hqbl : qb < w5.heap.size := World.block_lt_of_cell? w5 _ (hqq i hil)
            have HQQ : Hid (IntsAt w5 qb qf n (tryZ H Z i p)) := hqq
            have HB5 : Hid (Below wr.heap.size wr w5) := hb5
            have hs5 := hb5.size
            have HBW5 : Hid (Below w.heap.size w w5) := HAT.out.bel.trans (hb5.mono hsz)
            clear hown5 hqq hb5 hqi
            go_wp2_with fail
            refine (refbound_any b off n cap qb qf qc i T (tryZ H Z i p) w5 HG.out hil (by omega) hqbl (TasksAt.below HT.out hb HBW5.out) HQQ.out (fun t ht => (HPR.out.1 t ht).1)).mono ?_
            rintro e w6 ⟨s, r, rfl, hmx, hbd, hb6⟩
            have HHS : Hid (Has T n (dropI H i) i ↔ 0 < r) := by
              have := refB_set HG.out hil HPR.out ⟨s, hmx, hbd⟩
              rw [HAB.out] at this
              exact has_iff this
            have hbw6 : Below wr.heap.size wr w6 := HB5.out.trans (hb6.mono hs5)
            have HAT6 : Hid (RefAt w w6 gb pb n p T H Z) := ⟨HAT.out.part, HAT.out.rg.of_block (hbw6.block _ hgl), HAT.out.rp.of_block (hbw6.block _ hpl), HAT.out.bel.trans (hbw6.mono hsz)⟩
            clear hmx hbd hb6 hbw6 HB5 HBW5 HQQ y1
            by_cases hr0 : 0 < r
            · have bd : decide (0 < r) = true := by simpa using hr0
              have HF : Hid (Has T n (dropI H i) i) := HHS.out.2 hr0
              clear hfo
              go_wp2
              go_roundw
              case rel => exact ⟨i + 1, by omega, by go_num, HAT6.out, .inr ⟨i, rfl, by omega, HG1.out, HF.out, fun j h1 h2 => by omega⟩⟩
              case measure => simp [intOf]; omega
            · have bd : decide (0 < r) = false := by simpa using hr0
              have HF : Hid (¬ Has T n (dropI H i) i) := fun h => hr0 (HHS.out.1 h)
              rcases hfo with ⟨rfl, hno⟩ | ⟨f, rfl, hfi, hfH, hfb, hfm⟩
              · go_wp2
                go_roundw
                case rel => exact ⟨i + 1, by omega, by go_num, HAT6.out, .inl ⟨rfl, fun j hj hH => by
                  by_cases e : j = i
                  · subst e; exact HF.out
                  · exact hno j (by omega) hH⟩⟩
                case measure => simp [intOf]; omega
              · have HFM : Hid (H f = true ∧ Has T n (dropI H f) f ∧ ∀ j, f < j → j < i → H j = true → ¬ Has T n (dropI H j) j) := ⟨hfH, hfb, hfm⟩
                clear hfH hfb hfm
                go_wp2
                go_roundw
                case rel => exact ⟨i + 1, by omega, by go_num, HAT6.out, .inr ⟨f, rfl, by omega, HFM.out.1, HFM.out.2.1, fun j h1 h2 hH => by
                  by_cases e : j = i
                  · subst e; exact HF.out
                  · exact HFM.out.2.2 j h1 (by omega) hH⟩⟩
                case measure => simp [intOf]; omega
          · rw [hg] at y1
            have HG1 : Hid (H i = false) := hg
            clear hg
            go_wp2
            go_roundw
            case rel => exact ⟨i + 1, by omega, by go_num, HAT.out, hfo.imp (fun h => ⟨h.1, fun j hj hH => by
                by_cases e : j = i
                · subst e; rw [HG1.out] at hH; cases hH
                · exact h.2 j (by omega) hH⟩) (fun ⟨f, h1, h2, h3, h4, h5⟩ => ⟨f, h1, by omega, h3, h4, fun j hj1 hj2 hH => by
                by_cases e : j = i
                · subst e; rw [HG1.out] at hH; cases hH
                · exact h5 j hj1 (by omega) hH⟩)⟩
            case measure => simp [intOf]; omega
        · obtain rfl : i = n := by omega
          rcases hfo with ⟨rfl, hno⟩ | ⟨f, rfl, hfi, hfH, hfb, hfm⟩
          · have HNO : Hid (¬ Poss T i (fun q => decide (q < i))) := HAT.out.part.none hlt hno
            clear hno
            go_wp2
            go_ret3
            exact ⟨.inl ⟨rfl, HNO.out⟩, HAT.out.bel⟩
          · have HNX : Hid (RefAt w ((wr.setCell ⟨gb, f, none⟩ (.bool true)).setCell ⟨pb, f, none⟩ (.int .i64 p)) gb pb i (p + 1) T (dropI H f) (updZ Z f p)) := HAT.out.next HG.out hgb hpb hfi hfH hfb hfm
            have x0 : wr.cell? ⟨gb, f, none⟩ = some (.bool (!H f)) := HAT.out.rg.cell hfi
            have x1 : wr.cell? ⟨pb, f, none⟩ = some (.int .i64 (Z f)) := HAT.out.rp.cell hfi
            have zz0 : ∀ q, wr.frozen? ⟨gb, q, none⟩ = false := fun q => HAT.out.rg.frozen q
            have zz1 : ∀ q, wr.frozen? ⟨pb, q, none⟩ = false := fun q => HAT.out.rp.frozen q
            have hne : gb ≠ pb := rows_ne HAT.out.rg HAT.out.rp (by decide)
            clear hfH hfb hfm
            go_wp2
            go_roundw
            case rel => exact ⟨p + 1, _, _, by omega, by go_num, HNX.out⟩
            case measure => simp [intOf]; omega
    · obtain rfl : p = n := by omega
      obtain ⟨hd1, hd2⟩ := HAT.out.part.done
      have HD1 : Hid (Cad.PrioB Z p) := hd1
      have HD2 : Hid (∀ i, i < p → Low T p (fun q => if q < p then decide (Z i ≤ Z q) else false) i) := hd2
      clear hd1 hd2
      go_wp2
      go_ret3
      exact ⟨.inr ⟨pb, Z, rfl, HAT.out.rp, HD1.out, HD2.out⟩, HAT.out.bel⟩

end Go.Proofs.YtdabcflpcklfiaaGreat

/- The law Assigned. -/
namespace Go.Proofs.YtdabcflpcklfiaaGreat
open Go.RowKit

/-- How Assign comes out. -/
def OutcS (T : TD) (n : Nat) (E A : Int) (m : Nat) : Prop :=
  (m = 0 ∧ chkR T n = (E, A) ∧ E ≠ 0) ∨ (m = 0 ∧ chkR T n = (0, 0) ∧ E = 10 ∧ A = 0 ∧ ¬ Poss T n (fun q => decide (q < n))) ∨ (m = n ∧ chkR T n = (0, 0) ∧ E = 0 ∧ A = 0 ∧ Poss T n (fun q => decide (q < n)))

theorem outcS_ex (T : TD) (n : Nat) : ∃ E A m, OutcS T n E A m ∧ m ≤ 8 := by
  obtain ⟨x, y, hxy⟩ : ∃ x y, chkR T n = (x, y) := ⟨_, _, rfl⟩
  by_cases hx : x = 0
  · subst hx
    obtain ⟨hg, hy⟩ := good_of_chk hxy
    subst hy
    by_cases hp : Poss T n (fun q => decide (q < n))
    · exact ⟨0, 0, n, .inr (.inr ⟨rfl, hxy, rfl, rfl, hp⟩), hg.eight⟩
    · exact ⟨10, 0, 0, .inr (.inl ⟨rfl, hxy, rfl, rfl, hp⟩), by omega⟩
  · exact ⟨x, y, 0, .inl ⟨rfl, hxy, hx⟩, by omega⟩

theorem outcS_lent {T : TD} {S : Nat → Nat} {n m : Nat} {E A : Int} (h : OutcS T n E A m) : OutcS (T.lent S) n E A m := h

theorem code_allS (b off n cap : Nat) (T : TD) (E A : Int) (m : Nat) (w : World) (hm : n ≤ 9223372036854775807) (ho : OutcS T n E A m) (hb : b < w.heap.size) (hT : TasksAt w b off n T) :
    Calls Tryz.prog 39 #[.slice (some ⟨b, off, none⟩) n cap] w fun e w' => ∃ xv X, e = .returned (.tuple #[xv, .int .i64 E, .int .i64 A]) ∧ OutX w.heap.size w' m xv X ∧ (1 ≤ m → Cad.PrioB X n ∧ ∀ i, i < n → Low T n (fun q => if q < n then decide (X i ≤ X q) else false) i) ∧ Below w.heap.size w w' := by
  rcases ho with ⟨rfl, hc, hE⟩ | ⟨rfl, hc, rfl, rfl, hno⟩ | ⟨rfl, hc, rfl, rfl, hp⟩
  · refine (assign_err _ n cap E A w hE (check_errs _ n cap T w hm (fun _ => ⟨b, off, rfl, hb, hT⟩) E A hc w (Below.refl _ _))).mono ?_
    rintro e w' ⟨rfl, hb'⟩
    exact ⟨_, fun _ => 0, rfl, .inl ⟨rfl, rfl⟩, fun h => by omega, hb'⟩
  · refine (assign_ok b off n cap T w hc hb hT).mono ?_
    rintro e w' ⟨⟨rfl, _⟩ | ⟨pb, Z, rfl, _, _, hpr, hhas, _⟩, hb'⟩
    · exact ⟨_, fun _ => 0, rfl, .inl ⟨rfl, rfl⟩, fun h => by omega, hb'⟩
    · exact absurd (poss_of_prio hpr hhas) hno
  · refine (assign_ok b off _ cap T w hc hb hT).mono ?_
    rintro e w' ⟨⟨rfl, hno⟩ | ⟨pb, Z, rfl, hpb, hrow, hpr, _, hlow⟩, hb'⟩
    · exact absurd hp hno
    · exact ⟨_, Z, rfl, .inr ⟨pb, rfl, hpb, hrow⟩, fun _ => ⟨hpr, hlow⟩, hb'⟩

theorem ref_allS (b off n cap : Nat) (T : TD) (E A : Int) (m : Nat) (w : World) (hm : n ≤ 9223372036854775807) (ho : OutcS T n E A m) (hb : b < w.heap.size) (hT : TasksAt w b off n T) :
    Calls Tryz.prog 40 #[.slice (some ⟨b, off, none⟩) n cap] w fun e w' => ∃ yv Y, e = .returned (.tuple #[yv, .int .i64 E, .int .i64 A]) ∧ OutY w' m yv Y ∧ (1 ≤ m → Cad.PrioB Y n ∧ ∀ i, i < n → Low T n (fun q => if q < n then decide (Y i ≤ Y q) else false) i) ∧ Below w.heap.size w w' := by
  rcases ho with ⟨rfl, hc, hE⟩ | ⟨rfl, hc, rfl, rfl, hno⟩ | ⟨rfl, hc, rfl, rfl, hp⟩
  · refine (refassign_err _ n cap E A w hE (ref_all b off n cap T w E A hc hm hb hT)).mono ?_
    rintro e w' ⟨rfl, hb'⟩
    exact ⟨_, fun _ => 0, rfl, ⟨_, _, rfl, fun h => by omega⟩, fun h => by omega, hb'⟩
  · refine (refassign_ok b off n cap T w hc hb hT).mono ?_
    rintro e w' ⟨⟨rfl, _⟩ | ⟨pb, Z, rfl, _, hpr, hlow⟩, hb'⟩
    · exact ⟨_, fun _ => 0, rfl, ⟨_, _, rfl, fun h => by omega⟩, fun h => by omega, hb'⟩
    · refine absurd ?_ hno
      have h1 := (good_of_chk hc).1.one
      obtain ⟨a, ha, hz⟩ := (Cad.order_iff Z n).2 hpr 0 (by omega)
      have hl := (hlow a ha).poss
      have e : (fun q => if q < n then decide (Z a ≤ Z q) else false) = (fun q => decide (q < n)) := by
        funext q
        by_cases hq : q < n
        · rw [if_pos hq]
          have := (hpr.1 q hq).1
          simp only [hq, decide_true, decide_eq_true_eq]
          omega
        · rw [if_neg hq]; simp [hq]
      rw [e] at hl
      exact hl
  · refine (refassign_ok b off _ cap T w hc hb hT).mono ?_
    rintro e w' ⟨⟨rfl, hno⟩ | ⟨pb, Z, rfl, hrow, hpr, hlow⟩, hb'⟩
    · exact absurd hp hno
    · exact ⟨_, Z, rfl, ⟨_, _, rfl, fun _ => ⟨pb, 0, rfl, fun i hi => by rw [Nat.zero_add]; exact hrow.cell hi⟩⟩, fun _ => ⟨hpr, hlow⟩, hb'⟩

theorem outcS_same {T : TD} {n m : Nat} {E A : Int} {X Y : Nat → Int} (ho : OutcS T n E A m) (hX : 1 ≤ m → Cad.PrioB X n ∧ ∀ i, i < n → Low T n (fun q => if q < n then decide (X i ≤ X q) else false) i) (hY : 1 ≤ m → Cad.PrioB Y n ∧ ∀ i, i < n → Low T n (fun q => if q < n then decide (Y i ≤ Y q) else false) i) : ∀ i, i < m → X i = Y i := by
  intro i hi
  obtain ⟨x1, x2⟩ := hX (by omega)
  obtain ⟨y1, y2⟩ := hY (by omega)
  refine low_prio_unique x1 y1 x2 y2 i ?_
  rcases ho with ⟨rfl, _⟩ | ⟨rfl, _⟩ | ⟨rfl, _⟩
  · omega
  · omega
  · exact hi

end Go.Proofs.YtdabcflpcklfiaaGreat

/- The law All: what Analyze, Assign and Check leave of its lists. -/
namespace Go.Proofs.YtdabcflpcklfiaaGreat
open Go.RowKit Cad

theorem ret_open {w w5 w6 : World} {Wb n : Nat} {S : Nat → Nat} {M E M1 E1 : Nat → Prop} {V V1 : Nat → Value} {C C1 : Nat → List Value} {last : Int} (hd : Dis M E) (loM : Lo M w.heap.size) (loE : Lo E w.heap.size) (hb : Below w.heap.size w w5) (hr : RetE w5 w6 Wb n w.heap.size S M E M1 E1 V V1 C C1 last) (hS : ∀ j, j < n → w.heap.size < S j ∧ S j < w5.heap.size) (hz : w.heap.size < w5.heap.size) :
    OpenE w w6 Wb n M E M1 E1 V1 C C1 last := by
  have z6 := hr.fr.size
  have hE1 : ∀ q, E1 q → E q ∨ (w.heap.size ≤ q ∧ q < w5.heap.size) := fun q h => by
    rcases hr.ef q h with g | g | ⟨j, hj, g⟩
    · exact .inl g
    · exact .inr (by omega)
    · have := hS j hj; exact .inr (by omega)
  refine ⟨hr.lm, hr.le, fun q h1 h2 => ?_, fun q h => ?_, fun q h => ?_, ?_, fun i hi => ?_, (hr.cs 0 (by omega) (by decide) (by decide)).1⟩
  · rcases hr.mf q h1 with g | g
    · rcases hE1 q h2 with e | e
      · exact hd q g e
      · have := loM q g; omega
    · rcases hE1 q h2 with e | e
      · have := loE q e; omega
      · omega
  · rcases hr.mf q h with g | g
    · exact .inl g
    · exact .inr (by omega)
  · rcases hE1 q h with g | g
    · exact .inl g
    · exact .inr (by omega)
  · refine (Fr.of_below M hb).trans hr.fr (fun q g => ?_)
    rcases g with g | g | ⟨j, hj, g⟩
    · exact .inl g
    · exact .inr (by omega)
    · have := hS j hj; exact .inr (by omega)
  · by_cases e6 : i = 6
    · subst e6
      have := hr.cl.1
      omega
    · by_cases e7 : i = 7
      · subst e7
        have := hr.cl.2
        omega
      · rw [(hr.cs i hi e6 e7).1]
        omega

theorem keep_end {w w7 w8 : World} {Wb n : Nat} {l0 : Value} {M E M7 E7 M8 E8 : Nat → Prop} {V7 V8 : Nat → Value} {C C7 C8 : Nat → List Value} {last : Int} (ho : OpenE w w7 Wb n M E M7 E7 V7 C C7 last) (hk : KIEnd w7 w8 Wb l0 M7 E7 M8 E8 V7 V8 C7 C8 last) (hl : ∀ q, l0.ownBlock = some q → w.heap.size ≤ q ∧ q < w7.heap.size) :
    MV w w8 Wb (n + 5) M E M8 E8 V8 C C8 last (last - 1) := by
  have z7 := ho.fr.size
  have z8 := hk.fr.size
  refine ⟨hk.lm, hk.le, hk.dis, fun q h => ?_, fun q h => ?_, ho.fr.trans hk.fr (fun q g => ?_), fun i hi => ?_, by rw [hk.c0.1, ho.c0], by omega, by omega⟩
  · rcases hk.mf q h with g | g
    · rcases ho.mf q g with e | e
      · exact .inl e
      · exact .inr (by omega)
    · exact .inr (by omega)
  · rcases hk.ef q h with g | g | g
    · rcases ho.ef q g with e | e
      · exact .inl e
      · exact .inr (by omega)
    · have := hl q g; exact .inr (by omega)
    · exact .inr (by omega)
  · rcases g with g | g
    · rcases ho.mf q g with e | e
      · exact .inl e
      · exact .inr e.1
    · exact .inr (hl q g).1
  · have := hk.cl i hi
    have := ho.cl i hi
    omega

theorem chk_none {T : TD} {E A : Int} (h : chkR T 0 = (E, A)) : E = 1 ∧ A = 0 := by
  have e : chkR T 0 = (1, 0) := by unfold chkR; rw [if_neg (by omega)]
  rw [e] at h
  cases h
  exact ⟨rfl, rfl⟩

theorem ref_anaN {B0 b off n cap : Nat} {tO ao : Option Addr} {pn pc : Nat} {T : TD} {Z : Nat → Int} {E A : Int} {m : Nat} {w : World} (ha : TArg w B0 b n tO off T) (hB0 : B0 ≤ w.heap.size) (ho : Outc T Z n pn E A m)
    (hZ : 1 ≤ pn → ∃ pb po, ao = some ⟨pb, po, none⟩ ∧ pb < w.heap.size ∧ IntsAt w pb po pn Z) :
    Calls Tryz.prog 36 #[.slice tO n cap, .slice ao pn pc] w fun e w' => ∃ yo yc Y, e = .returned (.tuple #[.slice yo m yc, .int .i64 E, .int .i64 A]) ∧ (1 ≤ m → ∃ b off, yo = some ⟨b, off, none⟩ ∧ IntsAt w' b off m Y) ∧ (∀ i, i < m → RefB T Z n i (Y i)) ∧ Below w.heap.size w w' := by
  have n8 := ha.n8
  by_cases h1 : 1 ≤ n
  · obtain ⟨rfl, hbB⟩ := ha.some' h1
    refine Calls.mono (ref_allA b off n cap ao pn pc T Z E A m w (by omega) ho (by omega) ha.tasks hZ) ?_
    rintro e w' ⟨yv, Y, he, ⟨yo, yc, rfl, hy⟩, hY, hb⟩
    exact ⟨yo, yc, Y, he, hy, hY, hb⟩
  · obtain rfl : n = 0 := by omega
    rcases ho with ⟨rfl, hc, hE⟩ | ⟨rfl, hc, _⟩ | ⟨rfl, hc, _⟩
    · obtain ⟨rfl, rfl⟩ := chk_none hc
      refine Calls.mono (refana_none2 tO cap _ w) ?_
      rintro e w' ⟨he, hb⟩
      exact ⟨none, 0, fun _ => 0, he, fun h => by omega, fun i hi => by omega, hb⟩
    · have := (chk_none hc).1; omega
    · have := (chk_none hc).1; omega

theorem ref_asgN {B0 b off n cap : Nat} {tO : Option Addr} {T : TD} {E A : Int} {m : Nat} {w : World} (ha : TArg w B0 b n tO off T) (hB0 : B0 ≤ w.heap.size) (ho : OutcS T n E A m) :
    Calls Tryz.prog 40 #[.slice tO n cap] w fun e w' => ∃ yo yc Y, e = .returned (.tuple #[.slice yo m yc, .int .i64 E, .int .i64 A]) ∧ (1 ≤ m → ∃ b off, yo = some ⟨b, off, none⟩ ∧ IntsAt w' b off m Y) ∧ (1 ≤ m → Cad.PrioB Y n ∧ ∀ i, i < n → Low T n (fun q => if q < n then decide (Y i ≤ Y q) else false) i) ∧ Below w.heap.size w w' := by
  have n8 := ha.n8
  by_cases h1 : 1 ≤ n
  · obtain ⟨rfl, hbB⟩ := ha.some' h1
    refine Calls.mono (ref_allS b off n cap T E A m w (by omega) ho (by omega) ha.tasks) ?_
    rintro e w' ⟨yv, Y, he, ⟨yo, yc, rfl, hy⟩, hY, hb⟩
    exact ⟨yo, yc, Y, he, hy, hY, hb⟩
  · obtain rfl : n = 0 := by omega
    rcases ho with ⟨rfl, hc, hE⟩ | ⟨rfl, hc, _⟩ | ⟨rfl, hc, _⟩
    · obtain ⟨rfl, rfl⟩ := chk_none hc
      refine Calls.mono (refassign_err tO 0 cap 1 0 w (by decide) (Calls.mono (ref_many tO 0 cap w (by omega) (by omega)) (fun e w' h => ⟨h.1, by rw [h.2]; exact Below.refl _ _⟩))) ?_
      rintro e w' ⟨he, hb⟩
      exact ⟨none, 0, fun _ => 0, he, fun h => by omega, fun h => by omega, hb⟩
    · have := (chk_none hc).1; omega
    · have := (chk_none hc).1; omega

theorem ref_chkN {B0 b off n cap : Nat} {tO : Option Addr} {T : TD} {E A : Int} {w : World} (ha : TArg w B0 b n tO off T) (hB0 : B0 ≤ w.heap.size) (hc : chkR T n = (E, A)) :
    Calls Tryz.prog 42 #[.slice tO n cap] w fun e w' => e = .returned (.tuple #[.int .i64 E, .int .i64 A]) ∧ Below w.heap.size w w' := by
  have n8 := ha.n8
  by_cases h1 : 1 ≤ n
  · obtain ⟨rfl, hbB⟩ := ha.some' h1
    exact ref_all b off n cap T w E A hc (by omega) (by omega) ha.tasks
  · obtain rfl : n = 0 := by omega
    obtain ⟨rfl, rfl⟩ := chk_none hc
    exact Calls.mono (ref_many tO 0 cap w (by omega) (by omega)) (fun e w' h => ⟨h.1, by rw [h.2]; exact Below.refl _ _⟩)

theorem code_anaX (b off n cap : Nat) (ao : Option Addr) (pn pc : Nat) (T : TD) (Z : Nat → Int) (E A : Int) (m : Nat) (w : World) (hm : n ≤ 9223372036854775807) (ho : Outc T Z n pn E A m) (hb : b < w.heap.size) (hT : TasksAt w b off n T)
    (hZ : 1 ≤ pn → ∃ pb po, ao = some ⟨pb, po, none⟩ ∧ pb < w.heap.size ∧ IntsAt w pb po pn Z) :
    Calls Tryz.prog 35 #[.slice (some ⟨b, off, none⟩) n cap, .slice ao pn pc] w fun e w' => ∃ xo xc X, e = .returned (.tuple #[.slice xo m xc, .int .i64 E, .int .i64 A]) ∧ OutX w.heap.size w' m (.slice xo m xc) X ∧ (∀ i, i < m → CodeB T Z n i (X i)) ∧ Below w.heap.size w w' := by
  refine Calls.mono (code_all b off n cap ao pn pc T Z E A m w hm ho hb hT hZ) ?_
  rintro e w' ⟨xv, X, he, hx, hX, hb⟩
  obtain ⟨xo, xc, rfl⟩ := hx.shape
  exact ⟨xo, xc, X, he, hx, hX, hb⟩

theorem code_asgX (b off n cap : Nat) (T : TD) (E A : Int) (m : Nat) (w : World) (hm : n ≤ 9223372036854775807) (ho : OutcS T n E A m) (hb : b < w.heap.size) (hT : TasksAt w b off n T) :
    Calls Tryz.prog 39 #[.slice (some ⟨b, off, none⟩) n cap] w fun e w' => ∃ xo xc X, e = .returned (.tuple #[.slice xo m xc, .int .i64 E, .int .i64 A]) ∧ OutX w.heap.size w' m (.slice xo m xc) X ∧ (1 ≤ m → Cad.PrioB X n ∧ ∀ i, i < n → Low T n (fun q => if q < n then decide (X i ≤ X q) else false) i) ∧ Below w.heap.size w w' := by
  refine Calls.mono (code_allS b off n cap T E A m w hm ho hb hT) ?_
  rintro e w' ⟨xv, X, he, hx, hX, hb⟩
  obtain ⟨xo, xc, rfl⟩ := hx.shape
  exact ⟨xo, xc, X, he, hx, hX, hb⟩

/-- A list that came out stands where it stood. -/
theorem OutX.lst {B m xc : Nat} {w w' : World} {xo : Option Addr} {X : Nat → Int} (h : OutX B w m (.slice xo m xc) X) (hs : ∀ q, B ≤ q → q < w.heap.size → w'.heap[q]? = w.heap[q]?) : LstN w' m (.slice xo m xc) ∧ ∀ q, (Value.slice xo m xc).ownBlock = some q → B ≤ q ∧ q < w.heap.size := by
  rcases h with ⟨e, h0⟩ | ⟨g, e, hg, hr⟩
  · rw [e]
    exact ⟨.inl ⟨rfl, h0⟩, fun q hq => by simp [Value.ownBlock] at hq⟩
  · rw [e]
    refine ⟨.inr ⟨g, _, rfl, hr.of_block (hs g hg hr.lt)⟩, fun q hq => ?_⟩
    cases hq
    exact ⟨hg, hr.lt⟩

end Go.Proofs.YtdabcflpcklfiaaGreat

/- The law All: Analyze is asked. -/
namespace Go.Proofs.YtdabcflpcklfiaaGreat
open Go.RowKit Cad

set_option maxRecDepth 100000 in
set_option maxHeartbeats 8000000 in
theorem analyzes_any {B0 b off n cap Wb pn pc : Nat} {tO ao : Option Addr} {T : TD} {Z : Nat → Int} {w : World} {M E : Nat → Prop} {V : Nat → Value} {C : Nat → List Value} {last : Int} (hl : LW B0 Wb w M E V C last) (hC5 : ∀ i, i < 8 → (C i).length ≤ 100000000) (h0 : -1000000000 ≤ last) (h1 : last ≤ 0) (hnn : n ≤ 100000000) (ha : TArg w B0 b n tO off T) (hp : PArg w B0 pn ao Z) :
    Calls Tryz.prog 13 #[.pointer (some ⟨Wb, 0, none⟩), .slice tO n cap, .slice ao pn pc] w fun e w' => e = .returned (.bool true) ∧ ∃ M' E' V' C' last', MV w w' Wb (n + 5) M E M' E' V' C C' last last' := by
  have hB0 := hl.bb
  obtain ⟨Er, Ax, m, hout, hm8⟩ := outc_ex T Z n pn
  have HO : Hid (Outc T Z n pn Er Ax m) := hout
  have HLT : Hid _ := lent_all (cap := cap) ha hB0
  have hp8 := hp.1
  have hn8 := ha.n8
  have HX : Hid (Dis M E ∧ Lo M w.heap.size ∧ Lo E w.heap.size ∧ ∀ q, M q → B0 ≤ q) := ⟨hl.dis, hl.loM, hl.loE, hl.mb⟩
  have HA : Hid (TArg w B0 b n tO off T) := ha
  have HZ : Hid (1 ≤ pn → ∃ pb po, ao = some ⟨pb, po, none⟩ ∧ pb < B0 ∧ IntsAt w pb po pn Z) := hp.2
  have hret := fun (w1 w5 : World) (S : Nat → Nat) (v : Value) (h1 : LentInv w.heap.size n n T S v w w1) (h2 : Below w1.heap.size w1 w5) => ret_gen (cap := cap) hl.lm hl.le hl.dis hl.loM hl.loE hl.mb hC5 ha hB0 h1 h2
  have HRT : Hid _ := hret
  have HC5 : Hid (∀ i, i < 8 → (C i).length ≤ 100000000) := hC5
  have HLA : Hid (-1000000000 ≤ last ∧ last ≤ 0) := ⟨h0, h1⟩
  clear hC5 ha hp hret hl hout h0 h1
  go_enter Tryz.func13, Tryz.ntmps13
  go_wp2_with fail
  refine Calls.mono HLT.out ?_
  rintro e w1 ⟨S, v, rfl, hlent⟩
  obtain ⟨vo, vc, hvs⟩ := own_shapeK hlent.own
  subst hvs
  have HLE : Hid (LentInv w.heap.size n n T S (.slice vo n vc) w w1) := hlent
  have hlt1 : w.heap.size < w1.heap.size := hlent.lrow.lt
  have HB1 : Hid (Below w.heap.size w w1) := hlent.below
  have HTL : Hid (TasksAt w1 w.heap.size 0 n (T.lent S)) := lent_at hlent HA.out.l8
  clear hlent HLT
  go_wp2_with fail
  refine Calls.mono (lentInts_any ao pn pc Z _ hp8 (fun h => by
    obtain ⟨pb, po, e, hpb, hz⟩ := HZ.out h
    exact ⟨pb, po, e, by omega, IntsAt.below hz (by omega) HB1.out⟩)) ?_
  rintro e w2 ⟨rfl, hq2, hb2⟩
  have HQ2 : Hid (w2.rowIs w1.heap.size 3 (pn + 1) (lenf Z pn)) := hq2
  have HB2 : Hid (Below w1.heap.size w1 w2) := hb2
  have hs2 : w1.heap.size < w2.heap.size := hq2.lt
  have HZ2 : Hid (IntsAt w2 w1.heap.size 0 pn Z) := fun i hi => by
    rw [Nat.zero_add, hq2.cell (by omega)]
    unfold lenf
    rw [if_pos hi]
  have HB02 : Hid (Below w.heap.size w w2) := HB1.out.trans (hb2.mono (by omega))
  have HT2 : Hid (TasksAt w2 w.heap.size 0 n (T.lent S)) := TasksAt.below HTL.out hlt1 hb2
  clear hq2 hb2
  have HC3 : Hid (∀ wx, Below w2.heap.size w2 wx → Calls Tryz.prog 35 #[.slice (some ⟨w.heap.size, 0, none⟩) n (n + 1), .slice (some ⟨w1.heap.size, 0, none⟩) pn (pn + 1)] wx fun e w' => ∃ xo xc X, e = .returned (.tuple #[.slice xo m xc, .int .i64 Er, .int .i64 Ax]) ∧ True ∧ Hid (OutX w2.heap.size w' m (.slice xo m xc) X ∧ (∀ i, i < m → CodeB T Z n i (X i)) ∧ Below w2.heap.size w2 w')) := by
    intro wx hbx
    have hz := hbx.size
    refine Calls.mono (code_anaX w.heap.size 0 n (n + 1) (some ⟨w1.heap.size, 0, none⟩) pn (pn + 1) (T.lent S) Z Er Ax m wx (by omega) (outc_lent HO.out) (by omega) (TasksAt.below HT2.out (by omega) hbx) (fun _ => ⟨w1.heap.size, 0, rfl, by omega, IntsAt.below HZ2.out (by omega) hbx⟩)) ?_
    rintro e w' ⟨xo, xc, X, he, hx, hX, hb⟩
    refine ⟨xo, xc, X, he, trivial, ?_, hX, hbx.trans (hb.mono hz)⟩
    rcases hx with g | ⟨g, e1, e2, e3⟩
    · exact .inl g
    · exact .inr ⟨g, e1, by omega, e3⟩
  go_wp2_with fail
  go_region_held (fun _ => True) (first | go_keep | trivial) (first | (go_at_call 35; refine Calls.mono (HC3.out _ (below_drewM (Below.refl _ _) _)) ?_; rintro e w3 ⟨xo, xc, X, rfl, _, hb3⟩))
  all_goals
    have HX3 : Hid (OutX w2.heap.size w3 m (.slice xo m xc) X) := hb3.out.1
    have HCX : Hid (∀ i, i < m → CodeB T Z n i (X i)) := hb3.out.2.1
    have HB23 : Hid (Below w2.heap.size w2 w3) := hb3.out.2.2
    have HB03 : Hid (Below w.heap.size w w3) := HB02.out.trans (HB23.out.mono (by omega))
    have hs3 := HB23.out.size
    clear hb3 HC3
    have HRA : Hid _ := ref_anaN (cap := cap) (ao := ao) (pn := pn) (pc := pc) (HA.out.at (HB03.out.mono hB0) hB0) (by omega) HO.out (fun h => by
      obtain ⟨pb, po, e, hpb, hz⟩ := HZ.out h
      exact ⟨pb, po, e, by omega, IntsAt.below hz (by omega) HB03.out⟩)
    go_wp2_with fail
    refine Calls.mono HRA.out ?_
    rintro e w4 ⟨yo, yc, Y, rfl, hyi, hY, hb4⟩
    have HB34 : Hid (Below w3.heap.size w3 w4) := hb4
    have hs4 := hb4.size
    have HYI : Hid (1 ≤ m → ∃ b off, yo = some ⟨b, off, none⟩ ∧ IntsAt w4 b off m X) := fun h => by
      obtain ⟨yb, yf, e, hz⟩ := hyi h
      exact ⟨yb, yf, e, fun i hi => by rw [outc_same HO.out HCX.out hY i hi]; exact hz i hi⟩
    have HXI : Hid (1 ≤ m → ∃ b off, xo = some ⟨b, off, none⟩ ∧ IntsAt w4 b off m X) := HX3.out.ints hb4
    clear hyi hY hb4 HRA
    go_wp2_with fail
    refine Calls.mono (sameInts_any xo yo m _ yc X _ (by omega) HXI.out HYI.out) ?_
    rintro e w5 ⟨rfl, k5, hw5⟩
    have HB45 : Hid (Below w4.heap.size w4 w5) := by rw [hw5]; exact below_drewN (Below.refl _ _) _
    clear hw5 HXI HYI
    have hs5 := HB45.out.size
    have HB35 : Hid (Below w3.heap.size w3 w5) := HB34.out.trans (HB45.out.mono hs4)
    have HB15 : Hid (Below w1.heap.size w1 w5) := HB2.out.trans ((HB23.out.trans (HB35.out.mono hs3)).mono (by omega))
    have HB05 : Hid (Below w.heap.size w w5) := HB1.out.trans (HB15.out.mono (by omega))
    have HRET : Hid _ := HRT.out w1 w5 S (.slice vo n vc) HLE.out HB15.out
    have HSL : Hid (∀ j, j < n → w.heap.size < S j ∧ S j < w1.heap.size) := fun j hj => ⟨HLE.out.sgt j hj, (HLE.out.srow j hj).lt⟩
    go_wp2_with fail
    refine Calls.mono HRET.out ?_
    rintro e w6 ⟨rfl, M1, E1, V1, C1, hre⟩
    have HRE : Hid (RetE w5 w6 Wb n w.heap.size S M E M1 E1 V V1 C C1 last) := hre
    have hs6 := hre.fr.size
    have hX6 : ∀ q, w1.heap.size ≤ q → q < w5.heap.size → w6.heap[q]? = w5.heap[q]? := fun q h1 h2 => hre.fr.block q h2 (fun g => by
      rcases g with g | g | ⟨j, hj, g⟩
      · have := HX.out.2.1 q g; omega
      · omega
      · have := HSL.out j hj; omega)
    have HX6 : Hid (∀ q, w1.heap.size ≤ q → q < w5.heap.size → w6.heap[q]? = w5.heap[q]?) := hX6
    have hX0 : ∀ q, q < B0 → w6.heap[q]? = w.heap[q]? := fun q h1 => (hre.fr.block q (by omega) (fun g => by
      rcases g with g | g | ⟨j, hj, g⟩
      · have := HX.out.2.2.2 q g; omega
      · omega
      · have := HSL.out j hj; omega)).trans (HB05.out.block q (by omega))
    have HQ6 : Hid (w6.rowIs w1.heap.size 3 (pn + 1) (lenf Z pn)) := ((HQ2.out.of_block (HB23.out.block _ hs2)).of_block (HB35.out.block _ (by omega))).of_block (hX6 _ (Nat.le_refl _) (by omega))
    have hqM : ¬ M1 w1.heap.size := fun g => by
      rcases hre.mf _ g with g | g
      · have := HX.out.2.1 _ g; omega
      · omega
    have hqE : ¬ E1 w1.heap.size := fun g => by
      rcases hre.ef _ g with g | g | ⟨j, hj, g⟩
      · have := HX.out.2.2.1 _ g; omega
      · omega
      · have := HSL.out j hj; omega
    have hd1 : Dis M1 E1 := fun q h1 h2 => by
      rcases hre.mf q h1 with g | g
      · rcases hre.ef q h2 with e | e | ⟨j, hj, e⟩
        · exact HX.out.1 q g e
        · have := HX.out.2.1 q g; omega
        · have := HX.out.2.1 q g; have := HSL.out j hj; omega
      · rcases hre.ef q h2 with e | e | ⟨j, hj, e⟩
        · have := HX.out.2.2.1 q e; omega
        · omega
        · have := HSL.out j hj; omega
    have HRI : Hid _ := retInts2_any (qb := w1.heap.size) (n := pn) (cap := pc) (ao := ao) (Z := Z) hre.lm hre.le hp8 HQ6.out hqM hqE hd1 (by rw [(hre.cs 5 (by omega) (by decide) (by decide)).1]; have := HC5.out 5 (by omega); omega) (fun h => by
      obtain ⟨pb, po, e, hpb, hz⟩ := HZ.out h
      exact ⟨pb, po, e, fun i hi => (cell_same (hX0 pb hpb)).trans (hz i hi)⟩)
    clear hre hX6 hX0 hqM hqE hd1 HRET
    go_wp2_with fail
    refine Calls.mono HRI.out ?_
    rintro e w7 ⟨rfl, v', hlm7, hle7, hf7⟩
    have HOP : Hid (OpenE w w7 Wb n M E _ _ _ C _ last) := open_end HX.out.1 HX.out.2.1 HX.out.2.2.1 HB05.out HRE.out (fun j hj => ⟨(HSL.out j hj).1, by have := (HSL.out j hj).2; omega⟩) (by omega) ⟨hlt1, by omega⟩ hlm7 hle7 hf7
    have hs7 := hf7.size
    have hX7 : ∀ q, w2.heap.size ≤ q → q < w3.heap.size → w7.heap[q]? = w3.heap[q]? := fun q h1 h2 => ((hf7.block q (by omega) (fun g => by
      rcases g with g | g
      · rcases HRE.out.mf q g with e | e
        · have := HX.out.2.1 q e; omega
        · omega
      · omega)).trans (HX6.out q (by omega) (by omega))).trans (HB35.out.block q h2)
    obtain ⟨hlst, hown⟩ := HX3.out.lst hX7
    have HLS : Hid (LstN w7 m (.slice xo m xc)) := hlst
    have HOW : Hid (∀ q, (Value.slice xo m xc).ownBlock = some q → w2.heap.size ≤ q ∧ q < w3.heap.size) := hown
    have HM7 : Hid (∀ q, Nx M1 w6.heap.size w7.heap.size q → M q ∨ (w5.heap.size ≤ q ∧ q < w7.heap.size)) := fun q h => by
      rcases h with h | h
      · rcases HRE.out.mf q h with e | e
        · exact .inl e
        · exact .inr (by omega)
      · exact .inr (by omega)
    have HE7 : Hid (∀ q, (E1 q ∨ q = w1.heap.size) → E q ∨ (w.heap.size ≤ q ∧ q ≤ w1.heap.size)) := fun q h => by
      rcases h with h | h
      · rcases HRE.out.ef q h with e | e | ⟨j, hj, e⟩
        · exact .inl e
        · exact .inr (by omega)
        · have := HSL.out j hj; exact .inr (by omega)
      · exact .inr (by omega)
    have hknf : KNF w7 (.slice xo m xc) (Nx M1 w6.heap.size w7.heap.size) (fun q => E1 q ∨ q = w1.heap.size) := by
      refine ⟨fun q h => ?_, fun q h => ?_, HOP.out.dis, fun q h => ⟨?_, fun g => ?_, fun g => ?_⟩⟩
      · rcases HM7.out q h with e | e
        · have := HX.out.2.1 q e; omega
        · omega
      · rcases HE7.out q h with e | e
        · have := HX.out.2.2.1 q e; omega
        · omega
      · have := hown q h; omega
      · have := hown q h
        rcases HM7.out q g with e | e
        · have := HX.out.2.1 q e; omega
        · omega
      · have := hown q h
        rcases HE7.out q g with e | e
        · have := HX.out.2.2.1 q e; omega
        · omega
    have HKI : Hid _ := keepInts_any HOP.out.lm HOP.out.le hknf hlst (by omega) (by have := HLA.out.1; omega) HLA.out.2 (fun i hi => by have := HOP.out.cl i hi; have := HC5.out i hi; omega)
    clear hlm7 hle7 hf7 HRI hX7 hlst hown hknf HLS HM7 HE7 HX6
    go_wp2_with fail
    refine Calls.mono HKI.out ?_
    rintro e w8 ⟨rfl, M8, E8, V8, C8, hki⟩
    have HMV : Hid (MV w w8 Wb (n + 5) M E M8 E8 V8 C C8 last (last - 1)) := keep_end HOP.out hki (fun q hq => by have := HOW.out q hq; omega)
    clear hki HKI
    have hee : (Er == Er) = true := by simp
    have haa : (Ax == Ax) = true := by simp
    go_wp2
    go_ret
    exact ⟨rfl, _, _, _, _, _, HMV.out⟩

end Go.Proofs.YtdabcflpcklfiaaGreat

/- The law All: Assign and Check are asked. -/
namespace Go.Proofs.YtdabcflpcklfiaaGreat
open Go.RowKit Cad

set_option maxRecDepth 100000 in
set_option maxHeartbeats 8000000 in
theorem assigns_any {B0 b off n cap Wb : Nat} {tO : Option Addr} {T : TD} {w : World} {M E : Nat → Prop} {V : Nat → Value} {C : Nat → List Value} {last : Int} (hl : LW B0 Wb w M E V C last) (hC5 : ∀ i, i < 8 → (C i).length ≤ 100000000) (h0 : -1000000000 ≤ last) (h1 : last ≤ 0) (hnn : n ≤ 100000000) (ha : TArg w B0 b n tO off T) :
    Calls Tryz.prog 14 #[.pointer (some ⟨Wb, 0, none⟩), .slice tO n cap] w fun e w' => e = .returned (.bool true) ∧ ∃ M' E' V' C' last', MV w w' Wb (n + 5) M E M' E' V' C C' last last' := by
  have hB0 := hl.bb
  obtain ⟨Er, Ax, m, hout, hm8⟩ := outcS_ex T n
  have HO : Hid (OutcS T n Er Ax m) := hout
  have HLT : Hid _ := lent_all (cap := cap) ha hB0
  have hn8 := ha.n8
  have HX : Hid (Dis M E ∧ Lo M w.heap.size ∧ Lo E w.heap.size ∧ ∀ q, M q → B0 ≤ q) := ⟨hl.dis, hl.loM, hl.loE, hl.mb⟩
  have HA : Hid (TArg w B0 b n tO off T) := ha
  have hret := fun (w1 w5 : World) (S : Nat → Nat) (v : Value) (h1 : LentInv w.heap.size n n T S v w w1) (h2 : Below w1.heap.size w1 w5) => ret_gen (cap := cap) hl.lm hl.le hl.dis hl.loM hl.loE hl.mb hC5 ha hB0 h1 h2
  have HRT : Hid _ := hret
  have HC5 : Hid (∀ i, i < 8 → (C i).length ≤ 100000000) := hC5
  have HLA : Hid (-1000000000 ≤ last ∧ last ≤ 0) := ⟨h0, h1⟩
  clear hC5 ha hret hl hout h0 h1
  go_enter Tryz.func14, Tryz.ntmps14
  go_wp2_with fail
  refine Calls.mono HLT.out ?_
  rintro e w1 ⟨S, v, rfl, hlent⟩
  obtain ⟨vo, vc, hvs⟩ := own_shapeK hlent.own
  subst hvs
  have HLE : Hid (LentInv w.heap.size n n T S (.slice vo n vc) w w1) := hlent
  have hlt1 : w.heap.size < w1.heap.size := hlent.lrow.lt
  have HB1 : Hid (Below w.heap.size w w1) := hlent.below
  have HTL : Hid (TasksAt w1 w.heap.size 0 n (T.lent S)) := lent_at hlent HA.out.l8
  clear hlent HLT
  have HC3 : Hid (∀ wx, Below w1.heap.size w1 wx → Calls Tryz.prog 39 #[.slice (some ⟨w.heap.size, 0, none⟩) n (n + 1)] wx fun e w' => ∃ xo xc X, e = .returned (.tuple #[.slice xo m xc, .int .i64 Er, .int .i64 Ax]) ∧ True ∧ Hid (OutX w1.heap.size w' m (.slice xo m xc) X ∧ (1 ≤ m → Cad.PrioB X n ∧ ∀ i, i < n → Low T n (fun q => if q < n then decide (X i ≤ X q) else false) i) ∧ Below w1.heap.size w1 w')) := by
    intro wx hbx
    have hz := hbx.size
    refine Calls.mono (code_asgX w.heap.size 0 n (n + 1) (T.lent S) Er Ax m wx (by omega) (outcS_lent HO.out) (by omega) (TasksAt.below HTL.out (by omega) hbx)) ?_
    rintro e w' ⟨xo, xc, X, he, hx, hX, hb⟩
    refine ⟨xo, xc, X, he, trivial, ?_, hX, hbx.trans (hb.mono hz)⟩
    rcases hx with g | ⟨g, e1, e2, e3⟩
    · exact .inl g
    · exact .inr ⟨g, e1, by omega, e3⟩
  go_wp2_with fail
  first
    | (refine Calls.mono (HC3.out _ (Below.refl _ _)) ?_
       rintro e w3 ⟨xo, xc, X, rfl, _, hb3⟩)
    | (go_region_held (fun _ => True) (first | go_keep | trivial) (first | (go_at_call 39; refine Calls.mono (HC3.out _ (below_drewM (Below.refl _ _) _)) ?_; rintro e w3 ⟨xo, xc, X, rfl, _, hb3⟩)))
  all_goals
    have HX3 : Hid (OutX w1.heap.size w3 m (.slice xo m xc) X) := hb3.out.1
    have HCX : Hid (1 ≤ m → Cad.PrioB X n ∧ ∀ i, i < n → Low T n (fun q => if q < n then decide (X i ≤ X q) else false) i) := hb3.out.2.1
    have HB13 : Hid (Below w1.heap.size w1 w3) := hb3.out.2.2
    have HB03 : Hid (Below w.heap.size w w3) := HB1.out.trans (HB13.out.mono (by omega))
    have hs3 := HB13.out.size
    clear hb3 HC3
    have HRA : Hid _ := ref_asgN (cap := cap) (HA.out.at (HB03.out.mono hB0) hB0) (by omega) HO.out
    go_wp2_with fail
    refine Calls.mono HRA.out ?_
    rintro e w4 ⟨yo, yc, Y, rfl, hyi, hY, hb4⟩
    have HB34 : Hid (Below w3.heap.size w3 w4) := hb4
    have hs4 := hb4.size
    have HYI : Hid (1 ≤ m → ∃ b off, yo = some ⟨b, off, none⟩ ∧ IntsAt w4 b off m X) := fun h => by
      obtain ⟨yb, yf, e, hz⟩ := hyi h
      exact ⟨yb, yf, e, fun i hi => by rw [outcS_same HO.out HCX.out hY i hi]; exact hz i hi⟩
    have HXI : Hid (1 ≤ m → ∃ b off, xo = some ⟨b, off, none⟩ ∧ IntsAt w4 b off m X) := HX3.out.ints hb4
    clear hyi hY hb4 HRA
    go_wp2_with fail
    refine Calls.mono (sameInts_any xo yo m _ yc X _ (by omega) HXI.out HYI.out) ?_
    rintro e w5 ⟨rfl, k5, hw5⟩
    have HB45 : Hid (Below w4.heap.size w4 w5) := by rw [hw5]; exact below_drewN (Below.refl _ _) _
    clear hw5 HXI HYI
    have hs5 := HB45.out.size
    have HB35 : Hid (Below w3.heap.size w3 w5) := HB34.out.trans (HB45.out.mono hs4)
    have HB15 : Hid (Below w1.heap.size w1 w5) := HB13.out.trans (HB35.out.mono hs3)
    have HB05 : Hid (Below w.heap.size w w5) := HB1.out.trans (HB15.out.mono (by omega))
    have HRET : Hid _ := HRT.out w1 w5 S (.slice vo n vc) HLE.out HB15.out
    have HSL : Hid (∀ j, j < n → w.heap.size < S j ∧ S j < w1.heap.size) := fun j hj => ⟨HLE.out.sgt j hj, (HLE.out.srow j hj).lt⟩
    go_wp2_with fail
    refine Calls.mono HRET.out ?_
    rintro e w6 ⟨rfl, M1, E1, V1, C1, hre⟩
    have HRE : Hid (RetE w5 w6 Wb n w.heap.size S M E M1 E1 V V1 C C1 last) := hre
    have hs6 := hre.fr.size
    have hX6 : ∀ q, w1.heap.size ≤ q → q < w3.heap.size → w6.heap[q]? = w3.heap[q]? := fun q h1 h2 => (hre.fr.block q (by omega) (fun g => by
      rcases g with g | g | ⟨j, hj, g⟩
      · have := HX.out.2.1 q g; omega
      · omega
      · have := HSL.out j hj; omega)).trans (HB35.out.block q h2)
    have HOP : Hid (OpenE w w6 Wb n M E M1 E1 V1 C C1 last) := ret_open HX.out.1 HX.out.2.1 HX.out.2.2.1 HB05.out hre (fun j hj => ⟨(HSL.out j hj).1, by have := (HSL.out j hj).2; omega⟩) (by omega)
    obtain ⟨hlst, hown⟩ := HX3.out.lst hX6
    have HOW : Hid (∀ q, (Value.slice xo m xc).ownBlock = some q → w1.heap.size ≤ q ∧ q < w3.heap.size) := hown
    have hknf : KNF w6 (.slice xo m xc) M1 E1 := by
      refine ⟨fun q h => ?_, fun q h => ?_, HOP.out.dis, fun q h => ⟨?_, fun g => ?_, fun g => ?_⟩⟩
      · rcases HRE.out.mf q h with e | e
        · have := HX.out.2.1 q e; omega
        · omega
      · rcases HRE.out.ef q h with e | e | ⟨j, hj, e⟩
        · have := HX.out.2.2.1 q e; omega
        · omega
        · have := HSL.out j hj; omega
      · have := hown q h; omega
      · have := hown q h
        rcases HRE.out.mf q g with e | e
        · have := HX.out.2.1 q e; omega
        · omega
      · have := hown q h
        rcases HRE.out.ef q g with e | e | ⟨j, hj, e⟩
        · have := HX.out.2.2.1 q e; omega
        · omega
        · have := HSL.out j hj; omega
    have HKI : Hid _ := keepInts_any HOP.out.lm HOP.out.le hknf hlst (by omega) (by have := HLA.out.1; omega) HLA.out.2 (fun i hi => by have := HOP.out.cl i hi; have := HC5.out i hi; omega)
    clear hre hX6 hlst hown hknf HRET
    go_wp2_with fail
    refine Calls.mono HKI.out ?_
    rintro e w8 ⟨rfl, M8, E8, V8, C8, hki⟩
    have HMV : Hid (MV w w8 Wb (n + 5) M E M8 E8 V8 C C8 last (last - 1)) := keep_end HOP.out hki (fun q hq => by have := HOW.out q hq; omega)
    clear hki HKI
    have hee : (Er == Er) = true := by simp
    have haa : (Ax == Ax) = true := by simp
    go_wp2
    go_ret
    exact ⟨rfl, _, _, _, _, _, HMV.out⟩

set_option maxRecDepth 100000 in
set_option maxHeartbeats 8000000 in
theorem checks_any {B0 b off n cap Wb : Nat} {tO : Option Addr} {T : TD} {w : World} {M E : Nat → Prop} {V : Nat → Value} {C : Nat → List Value} {last : Int} (hl : LW B0 Wb w M E V C last) (hC5 : ∀ i, i < 8 → (C i).length ≤ 100000000) (ha : TArg w B0 b n tO off T) :
    Calls Tryz.prog 15 #[.pointer (some ⟨Wb, 0, none⟩), .slice tO n cap] w fun e w' => e = .returned (.bool true) ∧ ∃ M' E' V' C' last', MV w w' Wb (n + 1) M E M' E' V' C C' last last' := by
  have hB0 := hl.bb
  obtain ⟨Er, Ax, hout⟩ : ∃ x y, chkR T n = (x, y) := ⟨_, _, rfl⟩
  have HO : Hid (chkR T n = (Er, Ax)) := hout
  have HLT : Hid _ := lent_all (cap := cap) ha hB0
  have hn8 := ha.n8
  have HX : Hid (Dis M E ∧ Lo M w.heap.size ∧ Lo E w.heap.size ∧ ∀ q, M q → B0 ≤ q) := ⟨hl.dis, hl.loM, hl.loE, hl.mb⟩
  have HA : Hid (TArg w B0 b n tO off T) := ha
  have hret := fun (w1 w5 : World) (S : Nat → Nat) (v : Value) (h1 : LentInv w.heap.size n n T S v w w1) (h2 : Below w1.heap.size w1 w5) => ret_gen (cap := cap) hl.lm hl.le hl.dis hl.loM hl.loE hl.mb hC5 ha hB0 h1 h2
  have HRT : Hid _ := hret
  clear hC5 ha hret hl hout
  go_enter Tryz.func15, Tryz.ntmps15
  go_wp2_with fail
  refine Calls.mono HLT.out ?_
  rintro e w1 ⟨S, v, rfl, hlent⟩
  obtain ⟨vo, vc, hvs⟩ := own_shapeK hlent.own
  subst hvs
  have HLE : Hid (LentInv w.heap.size n n T S (.slice vo n vc) w w1) := hlent
  have hlt1 : w.heap.size < w1.heap.size := hlent.lrow.lt
  have HB1 : Hid (Below w.heap.size w w1) := hlent.below
  have HTL : Hid (TasksAt w1 w.heap.size 0 n (T.lent S)) := lent_at hlent HA.out.l8
  clear hlent HLT
  have HC3 : Hid (∀ wx, Below w1.heap.size w1 wx → Calls Tryz.prog 41 #[.slice (some ⟨w.heap.size, 0, none⟩) n (n + 1)] wx fun e w' => e = .returned (.tuple #[.int .i64 Er, .int .i64 Ax]) ∧ True ∧ Hid (Below w1.heap.size w1 w')) := by
    intro wx hbx
    have hz := hbx.size
    refine Calls.mono (cad_all w.heap.size 0 n (n + 1) (T.lent S) wx Er Ax HO.out (by omega) (by omega) (TasksAt.below HTL.out (by omega) hbx)) ?_
    rintro e w' ⟨he, hb⟩
    exact ⟨he, trivial, hbx.trans (hb.mono hz)⟩
  go_wp2_with fail
  first
    | (refine Calls.mono (HC3.out _ (Below.refl _ _)) ?_
       rintro e w3 ⟨rfl, _, hb3⟩)
    | (go_region_held (fun _ => True) (first | go_keep | trivial) (first | (go_at_call 41; refine Calls.mono (HC3.out _ (below_drewM (Below.refl _ _) _)) ?_; rintro e w3 ⟨rfl, _, hb3⟩)))
  all_goals
    have HB13 : Hid (Below w1.heap.size w1 w3) := hb3.out
    have HB03 : Hid (Below w.heap.size w w3) := HB1.out.trans (HB13.out.mono (by omega))
    have hs3 := HB13.out.size
    clear hb3 HC3
    have HRA : Hid _ := ref_chkN (cap := cap) (HA.out.at (HB03.out.mono hB0) hB0) (by omega) HO.out
    go_wp2_with fail
    refine Calls.mono HRA.out ?_
    rintro e w5 ⟨rfl, hb5⟩
    have HB35 : Hid (Below w3.heap.size w3 w5) := hb5
    have hs5 := hb5.size
    clear hb5 HRA
    have HB15 : Hid (Below w1.heap.size w1 w5) := HB13.out.trans (HB35.out.mono hs3)
    have HB05 : Hid (Below w.heap.size w w5) := HB1.out.trans (HB15.out.mono (by omega))
    have HRET : Hid _ := HRT.out w1 w5 S (.slice vo n vc) HLE.out HB15.out
    have HSL : Hid (∀ j, j < n → w.heap.size < S j ∧ S j < w1.heap.size) := fun j hj => ⟨HLE.out.sgt j hj, (HLE.out.srow j hj).lt⟩
    go_wp2_with fail
    refine Calls.mono HRET.out ?_
    rintro e w6 ⟨rfl, M1, E1, V1, C1, hre⟩
    have HMV : Hid (MV w w6 Wb (n + 1) M E M1 E1 V1 C C1 last last) := (ret_open HX.out.1 HX.out.2.1 HX.out.2.2.1 HB05.out hre (fun j hj => ⟨(HSL.out j hj).1, by have := (HSL.out j hj).2; omega⟩) (by omega)).mv
    clear hre HRET
    have hee : (Er == Er) = true := by simp
    have haa : (Ax == Ax) = true := by simp
    go_wp2
    go_ret
    exact ⟨rfl, _, _, _, _, _, HMV.out⟩

end Go.Proofs.YtdabcflpcklfiaaGreat

/- The law All, walked. -/
namespace Go.Proofs.YtdabcflpcklfiaaGreat
open Go.RowKit Cad

theorem analyzes_al {B0 b off n cap Wb pn pc r s k : Nat} {tO ao : Option Addr} {T : TD} {Z : Nat → Int} {w0 w : World} (h : AL B0 r s k Wb w0 w) (hr : r ≤ 100000000) (hs : s ≤ 1000) (hn : n ≤ 100000000) (ha0 : TArg w0 B0 b n tO off T) (hp0 : PArg w0 B0 pn ao Z) :
    Calls Tryz.prog 13 #[.pointer (some ⟨Wb, 0, none⟩), .slice tO n cap, .slice ao pn pc] w fun e w' => e = .returned (.bool true) ∧ AL B0 (r + (n + 5)) (s + 1) k Wb w0 w' := by
  obtain ⟨hbel, hB00⟩ := h.below
  obtain ⟨sb, xb, yb, S, FK, FR, M, E, V, C, last, hps, hl, hc, h0, h1⟩ := h
  refine Calls.mono (analyzes_any hl (fun i hi => Nat.le_trans (hc i hi) hr) (by omega) h1 hn (ha0.at hbel hB00) (hp0.at hbel)) ?_
  rintro e w' ⟨he, M', E', V', C', last', hm⟩
  exact ⟨he, AL.move hps hl hc h0 h1 hm⟩

theorem assigns_al {B0 b off n cap Wb r s k : Nat} {tO : Option Addr} {T : TD} {w0 w : World} (h : AL B0 r s k Wb w0 w) (hr : r ≤ 100000000) (hs : s ≤ 1000) (hn : n ≤ 100000000) (ha0 : TArg w0 B0 b n tO off T) :
    Calls Tryz.prog 14 #[.pointer (some ⟨Wb, 0, none⟩), .slice tO n cap] w fun e w' => e = .returned (.bool true) ∧ AL B0 (r + (n + 5)) (s + 1) k Wb w0 w' := by
  obtain ⟨hbel, hB00⟩ := h.below
  obtain ⟨sb, xb, yb, S, FK, FR, M, E, V, C, last, hps, hl, hc, h0, h1⟩ := h
  refine Calls.mono (assigns_any hl (fun i hi => Nat.le_trans (hc i hi) hr) (by omega) h1 hn (ha0.at hbel hB00)) ?_
  rintro e w' ⟨he, M', E', V', C', last', hm⟩
  exact ⟨he, AL.move hps hl hc h0 h1 hm⟩

theorem checks_al {B0 b off n cap Wb r s k : Nat} {tO : Option Addr} {T : TD} {w0 w : World} (h : AL B0 r s k Wb w0 w) (hr : r ≤ 100000000) (ha0 : TArg w0 B0 b n tO off T) :
    Calls Tryz.prog 15 #[.pointer (some ⟨Wb, 0, none⟩), .slice tO n cap] w fun e w' => e = .returned (.bool true) ∧ AL B0 (r + (n + 1)) (s + 1) k Wb w0 w' := by
  obtain ⟨hbel, hB00⟩ := h.below
  obtain ⟨sb, xb, yb, S, FK, FR, M, E, V, C, last, hps, hl, hc, h0, h1⟩ := h
  refine Calls.mono (checks_any hl (fun i hi => Nat.le_trans (hc i hi) hr) (ha0.at hbel hB00)) ?_
  rintro e w' ⟨he, M', E', V', C', last', hm⟩
  exact ⟨he, AL.move hps hl hc h0 h1 hm⟩

theorem play_al (hS : SortC) {B0 Wb b off ns cap r s k : Nat} {w0 w : World} {X : OD} {ao : Option Addr} (h : AL B0 r s k Wb w0 w) (hr : r ≤ 100000000) (hs : s ≤ 1000) (hk : k ≤ 2) (hns : ns ≤ 2000000) (hao : 1 ≤ ns → ao = some ⟨b, off, none⟩ ∧ b < B0) (hX : OpsAt w0 B0 b off ns X) :
    Calls Tryz.prog 7 #[.pointer (some ⟨Wb, 0, none⟩), .slice ao ns cap] w fun e w' => e = .returned (.bool true) ∧ Below B0 w0 w' := by
  obtain ⟨_, hB0⟩ := h.below
  obtain ⟨sb, xb, yb, S, hpx⟩ := h.px (ns := ns + 24) hr hs (by omega)
  have fin : ∀ k w'', PX B0 0 k Wb w0 w'' sb xb yb S → Below B0 w0 w'' := fun k w'' h => by
    obtain ⟨m, FK, FR, M, E, V, C, last, hp, _, _⟩ := h
    exact hp.below
  by_cases hk0 : k = 0
  · subst hk0
    exact Calls.mono (play_0 hpx) (fun e w'' h => ⟨h.1, fin _ _ h.2⟩)
  · by_cases hk1 : k = 1
    · subst hk1
      exact Calls.mono (play_1 hS hpx (by omega) hao hB0 hX) (fun e w'' h => ⟨h.1, fin _ _ h.2⟩)
    · obtain rfl : k = 2 := by omega
      exact Calls.mono (play_2 hS hpx (by omega) hao hB0 hX) (fun e w'' h => ⟨h.1, fin _ _ h.2⟩)

set_option maxRecDepth 100000 in
set_option maxHeartbeats 4000000 in
theorem all_any (hS : SortC) {b off n cap pn pc b2 off2 n2 cap2 pn2 pc2 sb so ns sc : Nat} {tO ao tO2 ao2 oO : Option Addr} {T T2 : TD} {Z Z2 : Nat → Int} {X : OD} {W : World} (ha : TArg W W.heap.size b n tO off T) (hp : PArg W W.heap.size pn ao Z) (ha2 : TArg W W.heap.size b2 n2 tO2 off2 T2) (hp2 : PArg W W.heap.size pn2 ao2 Z2) (hn : n ≤ 2000000) (hn2 : n2 ≤ 2000000) (hns : ns ≤ 2000000) (hoO : 1 ≤ ns → oO = some ⟨sb, so, none⟩ ∧ sb < W.heap.size) (hX : OpsAt W W.heap.size sb so ns X) :
    Calls Tryz.prog 5 #[.slice tO n cap, .slice ao pn pc, .slice tO2 n2 cap2, .slice ao2 pn2 pc2, .slice oO ns sc] W fun e w' => e = .returned (.bool true) ∧ Below W.heap.size W w' := by
  obtain ⟨W1, hW1⟩ : ∃ W1, W1 = W.alloc (.cells #[.slice none 0 0, .slice none 0 0, .slice none 0 0, .slice none 0 0, .slice none 0 0, .slice none 0 0, .slice none 0 0, .slice none 0 0, .int .i64 0] 32) := ⟨_, rfl⟩
  have hrow := world_row W
  rw [← hW1] at hrow
  have hb1 : Below W.heap.size W W1 := by rw [hW1]; exact below_alloc1 _ _
  have HA : Hid (TArg W1 W.heap.size b n tO off T) := ha.at hb1 (Nat.le_refl _)
  have HP : Hid (PArg W1 W.heap.size pn ao Z) := hp.at hb1
  have HA2 : Hid (TArg W1 W.heap.size b2 n2 tO2 off2 T2) := ha2.at hb1 (Nat.le_refl _)
  have HP2 : Hid (PArg W1 W.heap.size pn2 ao2 Z2) := hp2.at hb1
  have HXX : Hid (OpsAt W1 W.heap.size sb so ns X) := fun i hi => by
    obtain ⟨_, hb⟩ := hoO (by omega)
    obtain ⟨x0, x1, x2, x3, x4, x5, x6⟩ := hX i hi
    refine ⟨(hb1.cell (p := ⟨sb, so + i * 5, none⟩) hb).trans x0, (hb1.cell (p := ⟨sb, so + i * 5 + 1, none⟩) hb).trans x1, (hb1.cell (p := ⟨sb, so + i * 5 + 2, none⟩) hb).trans x2, (hb1.cell (p := ⟨sb, so + i * 5 + 3, none⟩) hb).trans x3, (hb1.cell (p := ⟨sb, so + i * 5 + 4, none⟩) hb).trans x4, x5, fun h => ?_⟩
    obtain ⟨rb, rf, e1, e2, e3⟩ := x6 h
    exact ⟨rb, rf, e1, e2, IntsAt.below e3 e2 hb1⟩
  have HOO : Hid (1 ≤ ns → oO = some ⟨sb, so, none⟩ ∧ sb < W.heap.size) := hoO
  have HB1 : Hid (Below W.heap.size W W1) := hb1
  have HAL : Hid (AL W.heap.size 0 0 0 W.heap.size W1 W1) := al_start hrow (Nat.le_refl _) hb1.size
  have HO1 : Hid _ := opens_al (cap := cap) (pc := pc) HAL.out (by omega) HA.out HP.out
  have HW1 : Hid (W1 = W.alloc (.cells #[.slice none 0 0, .slice none 0 0, .slice none 0 0, .slice none 0 0, .slice none 0 0, .slice none 0 0, .slice none 0 0, .slice none 0 0, .int .i64 0] 32)) := hW1
  clear hW1 hrow ha hp ha2 hp2 hX hoO hb1
  go_enter Tryz.func5, Tryz.ntmps5
  go_wp2_with fail
  rw [← HW1.out]
  refine Calls.mono HO1.out ?_
  rintro e w1 ⟨rfl, k1, hk1, hal1⟩
  have HO2 : Hid _ := opens_al (cap := cap2) (pc := pc2) hal1 (by omega) HA2.out HP2.out
  clear hal1 HW1 HO1
  go_wp2_with fail
  refine Calls.mono HO2.out ?_
  rintro e w2 ⟨rfl, k2, hk2, hal2⟩
  have HO3 : Hid _ := analyzes_al (cap := cap) (pc := pc2) hal2 (by omega) (by omega) (by omega) HA.out HP2.out
  clear hal2 HO2
  go_wp2_with fail
  refine Calls.mono HO3.out ?_
  rintro e w3 ⟨rfl, hal3⟩
  have HO4 : Hid _ := analyzes_al (cap := cap2) (pc := pc2) hal3 (by omega) (by omega) (by omega) HA2.out HP2.out
  clear hal3 HO3
  go_wp2_with fail
  refine Calls.mono HO4.out ?_
  rintro e w4 ⟨rfl, hal4⟩
  have HO5 : Hid _ := assigns_al (cap := cap) hal4 (by omega) (by omega) (by omega) HA.out
  clear hal4 HO4
  go_wp2_with fail
  refine Calls.mono HO5.out ?_
  rintro e w5 ⟨rfl, hal5⟩
  have HO6 : Hid _ := checks_al (cap := cap2) hal5 (by omega) HA2.out
  clear hal5 HO5
  go_wp2_with fail
  refine Calls.mono HO6.out ?_
  rintro e w6 ⟨rfl, hal6⟩
  have HO7 : Hid _ := play_al hS (cap := sc) hal6 (by omega) (by omega) (by omega) hns HOO.out HXX.out
  clear hal6 HO6
  go_wp2_with fail
  refine Calls.mono HO7.out ?_
  rintro e w7 ⟨rfl, hb7⟩
  have HB7 : Hid (Below W.heap.size W w7) := HB1.out.trans hb7
  clear hb7 HO7
  go_wp2
  go_ret
  exact ⟨rfl, HB7.out⟩

end Go.Proofs.YtdabcflpcklfiaaGreat

/- Two records are compared. -/
namespace Go.Proofs.YtdabcflpcklfiaaGreat
open Go.RowKit Cad

set_option maxHeartbeats 400000 in
theorem isNaN_any (x : Int) (w : World) : Calls Tryz.prog 120 #[.int .i64 x] w fun e w' => e = .returned (.bool false) ∧ w' = w := by
  have hx : (x != x) = false := by simp
  go_enter Tryz.func120, Tryz.ntmps120
  go_wp2
  go_ret
  exact ⟨rfl, rfl⟩

def cmpI (x y : Int) : Int := if x < y then -1 else if y < x then 1 else 0

set_option maxHeartbeats 400000 in
theorem compare_any (x y : Int) (w : World) : Calls Tryz.prog 91 #[.int .i64 x, .int .i64 y] w fun e w' => e = .returned (.int .i64 (cmpI x y)) ∧ w' = w := by
  by_cases h1 : x < y
  · have b1 : decide (x < y) = true := by simpa using h1
    have HE : Hid (cmpI x y = -1) := by unfold Hid cmpI; rw [if_pos h1]
    go_enter Tryz.func91, Tryz.ntmps91
    go_wp2_with (go_at_call 120; refine (isNaN_any _ _).mono ?_; rintro e w' ⟨rfl, rfl⟩)
    go_ret
    exact ⟨by rw [HE.out]; rfl, rfl⟩
  · have b1 : decide (x < y) = false := by simpa using h1
    by_cases h2 : y < x
    · have b2 : decide (y < x) = true := by simpa using h2
      have HE : Hid (cmpI x y = 1) := by unfold Hid cmpI; rw [if_neg h1, if_pos h2]
      go_enter Tryz.func91, Tryz.ntmps91
      go_wp2_with (go_at_call 120; refine (isNaN_any _ _).mono ?_; rintro e w' ⟨rfl, rfl⟩)
      go_ret
      exact ⟨by rw [HE.out]; rfl, rfl⟩
    · have b2 : decide (y < x) = false := by simpa using h2
      have HE : Hid (cmpI x y = 0) := by unfold Hid cmpI; rw [if_neg h1, if_neg h2]
      go_enter Tryz.func91, Tryz.ntmps91
      go_wp2_with (go_at_call 120; refine (isNaN_any _ _).mono ?_; rintro e w' ⟨rfl, rfl⟩)
      go_ret
      exact ⟨by rw [HE.out]; rfl, rfl⟩

def Tryz.sortL_ren : Go.Shelf.Ren := ⟨fun | 6 => 89 | 15 => 119 | 14 => 118 | 28 => 144 | 29 => 145 | 20 => 136 | 21 => 137 | 22 => 138 | 23 => 139 | 24 => 140 | 25 => 141 | 26 => 142 | 27 => 143 | 46 => 147 | 47 => 148 | 48 => 149 | 49 => 150 | 50 => 151 | 57 => 153 | n => n, fun | 22 => 140 | 24 => 158 | 25 => 166 | 3 => 3 | 39 => 192 | 0 => 0 | 53 => 107 | 55 => 212 | 4 => 4 | 46 => 205 | 45 => 204 | 50 => 72 | 5 => 5 | 9 => 9 | 66 => 213 | 70 => 217 | 76 => 220 | 77 => 221 | n => n, fun | n => n⟩
theorem Tryz.sortL : Go.Proofs.SlLaysF0.n6 Tryz.prog Tryz.sortL_ren := {
  mixed := by kernel_rfl
  f6 := ⟨Tryz.f89.name, by decide, Tryz.func89.trans (congrArg some (by kernel_rfl))⟩
  f14 := ⟨Tryz.f118.name, by decide, Tryz.func118.trans (congrArg some (by kernel_rfl))⟩
  f15 := Tryz.func119.trans (congrArg some (by kernel_rfl))
  f20 := ⟨Tryz.f136.name, by decide, Tryz.func136.trans (congrArg some (by kernel_rfl))⟩
  f21 := ⟨Tryz.f137.name, by decide, Tryz.func137.trans (congrArg some (by kernel_rfl))⟩
  f22 := ⟨Tryz.f138.name, by decide, Tryz.func138.trans (congrArg some (by kernel_rfl))⟩
  f23 := ⟨Tryz.f139.name, by decide, Tryz.func139.trans (congrArg some (by kernel_rfl))⟩
  f24 := ⟨Tryz.f140.name, by decide, Tryz.func140.trans (congrArg some (by kernel_rfl))⟩
  f25 := ⟨Tryz.f141.name, by decide, Tryz.func141.trans (congrArg some (by kernel_rfl))⟩
  f26 := ⟨Tryz.f142.name, by decide, Tryz.func142.trans (congrArg some (by kernel_rfl))⟩
  f27 := ⟨Tryz.f143.name, by decide, Tryz.func143.trans (congrArg some (by kernel_rfl))⟩
  f28 := Tryz.func144.trans (congrArg some (by kernel_rfl))
  f29 := Tryz.func145.trans (congrArg some (by kernel_rfl))
  f46 := ⟨Tryz.f147.name, by decide, Tryz.func147.trans (congrArg some (by kernel_rfl))⟩
  f47 := Tryz.func148.trans (congrArg some (by kernel_rfl))
  f48 := Tryz.func149.trans (congrArg some (by kernel_rfl))
  f49 := ⟨Tryz.f150.name, by decide, Tryz.func150.trans (congrArg some (by kernel_rfl))⟩
  f50 := ⟨Tryz.f151.name, by decide, Tryz.func151.trans (congrArg some (by kernel_rfl))⟩
  f57 := ⟨Tryz.f153.name, by decide, Tryz.func153.trans (congrArg some (by kernel_rfl))⟩
  t0 := Tryz.underlying0
  a0 := Tryz.isAgg0
  z0 := Tryz.sizeOf0
  v0 := Tryz.zeroValue0
  t3 := Tryz.underlying3
  a3 := Tryz.isAgg3
  z3 := Tryz.sizeOf3
  v3 := Tryz.zeroValue3
  t4 := Tryz.underlying4
  a4 := Tryz.isAgg4
  z4 := Tryz.sizeOf4
  v4 := Tryz.zeroValue4
  t5 := Tryz.underlying5
  a5 := Tryz.isAgg5
  z5 := Tryz.sizeOf5
  v5 := Tryz.zeroValue5
  t9 := Tryz.underlying9
  a9 := Tryz.isAgg9
  z9 := Tryz.sizeOf9
  v9 := Tryz.zeroValue9
  t22 := Tryz.underlying140
  a22 := Tryz.isAgg140
  z22 := Tryz.sizeOf140
  v22 := Tryz.zeroValue140
  t25 := Tryz.underlying166
  a25 := Tryz.isAgg166
  z25 := Tryz.sizeOf166
  v25 := Tryz.zeroValue166
  t39 := Tryz.underlying192
  a39 := Tryz.isAgg192
  z39 := Tryz.sizeOf192
  v39 := Tryz.zeroValue192
  t45 := Tryz.underlying204
  a45 := Tryz.isAgg204
  z45 := Tryz.sizeOf204
  v45 := Tryz.zeroValue204
  t46 := Tryz.underlying205
  a46 := Tryz.isAgg205
  z46 := Tryz.sizeOf205
  v46 := Tryz.zeroValue205
  t50 := Tryz.underlying72
  a50 := Tryz.isAgg72
  z50 := Tryz.sizeOf72
  v50 := Tryz.zeroValue72
  t53 := Tryz.underlying107
  a53 := Tryz.isAgg107
  z53 := Tryz.sizeOf107
  v53 := Tryz.zeroValue107
  t55 := Tryz.underlying212
  a55 := Tryz.isAgg212
  z55 := Tryz.sizeOf212
  v55 := Tryz.zeroValue212
  t66 := Tryz.underlying213
  a66 := Tryz.isAgg213
  z66 := Tryz.sizeOf213
  v66 := Tryz.zeroValue213
  t70 := Tryz.underlying217
  a70 := Tryz.isAgg217
  z70 := Tryz.sizeOf217
  v70 := Tryz.zeroValue217
  t76 := Tryz.underlying220
  a76 := Tryz.isAgg220
  z76 := Tryz.sizeOf220
  v76 := Tryz.zeroValue220
  t77 := Tryz.underlying221
  a77 := Tryz.isAgg221
  z77 := Tryz.sizeOf221
  v77 := Tryz.zeroValue221 }

/-- How records are compared. -/
def cfR (x y : Rc) : Int := cmpI x.ord y.ord

theorem ltR (x y : Rc) : ltOf cfR x y = decide (x.ord < y.ord) := by
  unfold ltOf cfR cmpI
  by_cases h1 : x.ord < y.ord
  · simp [h1]
  · by_cases h2 : y.ord < x.ord <;> simp [h1, h2]

theorem swoR : Go.Sort.SWO (ltOf cfR) where
  irrefl x := by rw [ltR]; simp
  trans x y z h1 h2 := by rw [ltR] at *; simp at *; omega
  ntrans x y z h1 h2 := by rw [ltR] at *; simp at *; omega

set_option maxHeartbeats 1000000 in
theorem closure_any (x y : Rc) (W : World) : Calls Tryz.prog 90 #[.agg (recC x).toArray, .agg (recC y).toArray] W fun e w' => e = .returned (.int .i64 (cfR x y)) ∧ ∃ q os', w' = Go.Sort.grow (W.drewN q) os' := by
  have hcon := fun W' => compare_any x.ord y.ord W'
  show Calls Tryz.prog 90 #[.agg #[.int .i64 x.task, .int .i64 x.arr, .int .i64 x.rel, .int .i64 x.done, .int .i64 x.left, .int .i64 x.ord], .agg #[.int .i64 y.task, .int .i64 y.arr, .int .i64 y.rel, .int .i64 y.done, .int .i64 y.left, .int .i64 y.ord]] W _
  unfold cfR
  generalize cmpI x.ord y.ord = r at hcon ⊢
  go_enter Tryz.func90, Tryz.ntmps90
  go_wp2_with (go_at_call 91; refine (hcon _).mono ?_; rintro e w' ⟨rfl, rfl⟩)
  go_ret
  exact ⟨rfl, 0, _, by rw [Go.Sort.alloc_eq_grow, Go.Sort.alloc_eq_grow, Go.Sort.grow_grow]; rfl⟩

@[reducible] def rcInh : Inhabited Rc := ⟨⟨0, 0, 0, 0, 0, 0⟩⟩

theorem recC_one (x : Rc) : ∀ v ∈ recC x, v.oneCell' = true := by
  intro v hv
  simp [recC] at hv
  rcases hv with rfl | rfl | rfl | rfl | rfl | rfl <;> rfl

/-- A list's cells, flat. -/
theorem flat_kept (l : List Rc) : @Go.Sort.flatK Rc rcInh recC 6 l.toArray = (keptC l).toArray := by
  apply Array.ext_getElem?
  intro t
  by_cases ht : t < l.length * 6
  · obtain ⟨r, hr⟩ : ∃ r, l[t / 6]? = some r := ⟨_, List.getElem?_eq_getElem (by omega)⟩
    have h1 := keptC_at hr (t % 6) (by omega)
    rw [show t / 6 * 6 + t % 6 = t from by omega] at h1
    have h2 : (@Go.Sort.flatK Rc rcInh recC 6 l.toArray)[t]? = some (@Go.Sort.flatK Rc rcInh recC 6 l.toArray)[t]! := by
      rw [getElem!_pos _ t (by rw [@Go.Sort.size_flatK Rc rcInh]; exact ht)]
      exact Array.getElem?_eq_getElem _
    rw [h2, @Go.Sort.get_flatK Rc rcInh _ _ _ _ (by exact ht)]
    rw [@getElem!_pos _ _ _ _ _ _ rcInh l.toArray (t / 6) (by simp only [List.size_toArray]; omega)]
    have h3 : l.toArray[t / 6]'(by simp only [List.size_toArray]; omega) = r := by
      have := List.getElem?_eq_some_iff.1 hr
      simpa using this.2
    rw [h3, List.getElem?_toArray, h1]
    have h4 : t % 6 < 6 := by omega
    simp only [recC]
    match t % 6, h4 with
    | 0, _ => rfl
    | 1, _ => rfl
    | 2, _ => rfl
    | 3, _ => rfl
    | 4, _ => rfl
    | 5, _ => rfl
  · rw [Array.getElem?_eq_none (by rw [@Go.Sort.size_flatK Rc rcInh]; exact Nat.le_of_not_lt ht), Array.getElem?_eq_none (by simp only [List.size_toArray]; rw [keptC_len]; omega)]

theorem perm_arr {l : List Rc} {d : Array Rc} (h : @Go.Sort.PermIn Rc rcInh 0 l.toArray.size l.toArray d) : l.Perm d.toList := by
  obtain ⟨h1, _, h3⟩ := h
  have e1 : d.extract 0 l.toArray.size = d := by rw [← h1]; exact Array.extract_size
  have e2 : l.toArray.extract 0 l.toArray.size = l.toArray := Array.extract_size
  rw [e1, e2] at h3
  simpa using h3.symm

theorem sorted_arr {d : Array Rc} (h : @Go.Sort.SortedIn Rc rcInh (ltOf cfR) 0 d.size d) : d.toList.Pairwise (fun a b => a.ord ≤ b.ord) := by
  rw [List.pairwise_iff_getElem]
  intro i j hi hj hij
  have h1 := h i j (Nat.zero_le _) hij (by simpa using hj)
  rw [ltR] at h1
  simp only [Array.length_toList] at hi hj
  rw [@getElem!_pos _ _ _ _ _ _ rcInh d j hj, @getElem!_pos _ _ _ _ _ _ rcInh d i hi] at h1
  simp at h1
  simpa using h1

theorem sw_size (w : World) (g n : Nat) (d : Array Rc) (os : Array Obj) : (@sortWorldK Rc rcInh recC 6 w g 0 n d os).heap.size = w.heap.size + os.size := by
  show ((w.heap.modify g _) ++ os).size = _
  simp

theorem sw_other {w : World} {g n b : Nat} {d : Array Rc} {os : Array Obj} (hb : b < w.heap.size) (hne : b ≠ g) : (@sortWorldK Rc rcInh recC 6 w g 0 n d os).heap[b]? = w.heap[b]? := by
  show ((w.heap.modify g _) ++ os)[b]? = _
  rw [Array.getElem?_append_left (by simpa using hb), Array.getElem?_modify, if_neg (fun e => hne e.symm)]

theorem sw_fr {w : World} {g n : Nat} {d : Array Rc} {os : Array Obj} {len cap : Nat} (_hg : g < w.heap.size) : Fr (fun q => (Value.slice (some ⟨g, 0, none⟩) len cap).ownBlock = some q) w (@sortWorldK Rc rcInh recC 6 w g 0 n d os) :=
  ⟨rfl, rfl, rfl, by rw [sw_size]; omega, fun b hb hn => sw_other hb (fun e => hn (by rw [e]; rfl))⟩

theorem sw_own {w : World} {B g n cap : Nat} {d : Array Rc} {os : Array Obj} {l : List Rc} (h : w.ownsRow B 158 6 (.slice (some ⟨g, 0, none⟩) l.length cap) l.length (keptC l)) (hs : d.toList.length = l.length) :
    (@sortWorldK Rc rcInh recC 6 w g 0 n d os).ownsRow B 158 6 (.slice (some ⟨g, 0, none⟩) l.length cap) l.length (keptC d.toList) := by
  have hgl := (h.lt g rfl).2
  obtain ⟨hlen, ⟨hv, _⟩ | ⟨g', cap', cur, hv, hB, hg, hc1, hc2, hc3, hc4⟩⟩ := h
  · cases hv
  · cases hv
    have hF : @Go.Sort.flatK Rc rcInh recC 6 d = (keptC d.toList).toArray := by
      have := flat_kept d.toList
      simpa using this
    have hkl := keptC_len d.toList
    refine ⟨by rw [hkl, hs], .inr ⟨g, cap, Go.Sort.putCells id 0 (keptC d.toList).toArray cur, rfl, hB, ?_, hc1, hc2, ?_, ?_⟩⟩
    · show ((w.heap.modify g (Go.Sort.onCells (Go.Sort.putCells id 0 (@Go.Sort.flatK Rc rcInh recC 6 d)))) ++ os)[g]? = _
      rw [Array.getElem?_append_left (by simpa using hgl), Array.getElem?_modify, if_pos rfl, hg, hF]
      rfl
    · unfold Go.Sort.putCells
      rw [Array.size_mapIdx]
      exact hc3
    · apply List.ext_getElem?
      intro q
      rw [List.getElem?_take]
      by_cases hq : q < l.length * 6
      · rw [if_pos hq]
        unfold Go.Sort.putCells
        rw [Array.getElem?_toList, Array.getElem?_mapIdx, Array.getElem?_eq_getElem (by rw [hc3]; omega)]
        have hq2 : q < (keptC d.toList).length := by rw [hkl, hs]; exact hq
        simp only [Option.map_some, Nat.zero_le, Nat.zero_add, List.size_toArray, hq2, and_self, if_true, Nat.sub_zero, id]
        rw [getElem!_pos _ q (by simpa using hq2), List.getElem?_eq_getElem hq2]
        simp
      · rw [if_neg hq, List.getElem?_eq_none (by rw [hkl, hs]; omega)]

set_option maxRecDepth 100000 in
theorem sort_recs : SortC := by
  intro v l w B hl h
  have h0 := h
  obtain ⟨hlen, ⟨rfl, hn⟩ | ⟨g, cap, cur, rfl, hB, hg, hc1, hc2, hc3, hc4⟩⟩ := h0
  · have hc := AnyF.slices_SortFunc_none Tryz.sortL none 0 (.func (.func 90) #[] #[]) w
    change Calls Tryz.prog 89 _ _ _ at hc
    refine hc.mono ?_
    rintro e w' ⟨rfl, rfl⟩
    have : l = [] := List.length_eq_zero_iff.1 hn
    subst this
    exact ⟨rfl, [], List.Perm.refl _, List.Pairwise.nil, h, Fr.refl _ _⟩
  · have hgl := (h.lt g rfl).2
    have eg : ∀ args w, (callFunc 90 args).run Tryz.prog w = .ok (.enter 90 args) w := enters_of Tryz.func90 (by kernel_rfl) rfl
    have hH : @Go.Sort.HoldsK Rc rcInh recC 6 w g 0 l.toArray := by
      show Go.Sort.Holds id w g 0 (@Go.Sort.flatK Rc rcInh recC 6 l.toArray)
      rw [flat_kept]
      intro j hj
      have hj' : j < (keptC l).length := by simpa using hj
      refine ⟨?_, h.frozenAt _⟩
      have := h.cells (g := g) rfl j ((keptC l)[j]) (List.getElem?_eq_getElem hj')
      rw [Addr.add_lit] at this
      rw [this, getElem!_pos _ j hj]
      simp
    have hcmp : @CmpLays Rc rcInh Tryz.prog 90 #[] recC 6 cfR g 0 l.toArray.size w := fun _ _ _ _ x y => closure_any x y _
    have hc := @AnyQ.slices_SortFunc Tryz.prog Tryz.sortL_ren Rc rcInh Tryz.sortL 6 Tryz.isAgg158 Tryz.sizeOf158 recC (fun _ => rfl) recC_one cfR swoR 90 #[] g 0 cap l.toArray w eg hcmp hH hgl (by simp; omega)
    change Calls Tryz.prog 89 _ _ _ at hc
    rw [List.size_toArray] at hc
    refine hc.mono ?_
    rintro e w' ⟨rfl, d, n, os, hp, hs, rfl⟩
    have hds : d.size = l.length := by have := hp.1; simpa using this
    have hsz : d.toList.length = l.length := by simpa using hds
    refine ⟨rfl, d.toList, perm_arr (by simpa using hp), sorted_arr (by rw [hds]; exact hs), ?_, ?_⟩
    · rw [hsz]
      exact sw_own h hsz
    · exact sw_fr hgl

end Go.Proofs.YtdabcflpcklfiaaGreat
