import Derived.Test.YtdabcflpcklfiaaPe
/- Whether a set is possible. -/
namespace Go.Proofs.Ytdabcflpcklfiaa
open Go.RowKit

theorem run_eqset (H H' : Nat → Bool) (w : World) : ∃ r : Bool, (Op.equalIn 10000 86 (setV H) (setV H')).run Try.prog w = .ok r w ∧ (r = true ↔ ∀ q, q < 8 → H q = H' q) := by
  have hform : ∀ H : Nat → Bool, (setV H).formed Try.prog 86 = true := fun H => by
    simp only [setV, Value.formed, Try.underlying86, Try.cellsS]
    rfl
  obtain ⟨r, h1, h2⟩ := run_equalIn_deep 9998 2 86 Try.deepS w 2 2 (setV H) (setV H') _ _ (hform H) (hform H') (lits_set 0 (H 0) (H 1) (H 2) (H 3) (H 4) (H 5) (H 6) (H 7)) (lits_set 0 (H' 0) (H' 1) (H' 2) (H' 3) (H' 4) (H' 5) (H' 6) (H' 7))
  refine ⟨r, h1, h2.trans ?_⟩
  constructor
  · intro h q hq
    simp at h
    obtain ⟨e0, e1, e2, e3, e4, e5, e6, e7⟩ := h
    match q, hq with
    | 0, _ => exact e0
    | 1, _ => exact e1
    | 2, _ => exact e2
    | 3, _ => exact e3
    | 4, _ => exact e4
    | 5, _ => exact e5
    | 6, _ => exact e6
    | 7, _ => exact e7
  · intro h
    rw [h 0 (by omega), h 1 (by omega), h 2 (by omega), h 3 (by omega), h 4 (by omega), h 5 (by omega), h 6 (by omega), h 7 (by omega)]

set_option maxRecDepth 100000 in
set_option maxHeartbeats 2000000 in
theorem possible_none (sb : Nat) (H : Nat → Bool) (w : World) (h0 : ∀ q, q < 8 → H q = false) :
    Calls Try.prog 65 #[.pointer (some ⟨sb, 0, none⟩), setV H] w fun e w' => e = .returned (.bool true) ∧ Below w.heap.size w w' := by
  obtain ⟨r, hr, hi⟩ := run_eqset H (fun _ => false) (w.alloc (.cells #[.bool (H 0), .bool (H 1), .bool (H 2), .bool (H 3), .bool (H 4), .bool (H 5), .bool (H 6), .bool (H 7)] 86))
  obtain rfl : r = true := hi.2 h0
  unfold setV at hr
  unfold setV
  clear hi h0
  have HB : Hid (Below w.heap.size w (w.alloc (.cells #[.bool (H 0), .bool (H 1), .bool (H 2), .bool (H 3), .bool (H 4), .bool (H 5), .bool (H 6), .bool (H 7)] 86))) := below_alloc1 _ _
  go_enter Try.func65, Try.ntmps65
  go_wp2
  go_ret
  exact ⟨rfl, HB.out⟩

set_option maxRecDepth 100000 in
set_option maxHeartbeats 2000000 in
theorem possible_some {T : TD} {n sb g mb c : Nat} (hG : Good T n) (hch : ChooseC T n sb g mb c) (H : Nat → Bool) (M : (Nat → Bool) → Option Int) (k : Nat) (w : World) (hcnt : cntS H n = c + 1) (hsub : ∀ q, n ≤ q → H q = false) (henv : SEnv w sb g mb n T) (hmap : SMap w mb k M) (hinv : MInv T n M) (hk : k + 9 ^ (c + 1) ≤ 1000000000) :
  Calls Try.prog 65 #[.pointer (some ⟨sb, 0, none⟩), setV H] w fun e w' => ∃ (t : Bool) (M' : (Nat → Bool) → Option Int), e = .returned (.bool t) ∧ (t = true ↔ Poss T n H) ∧ SMap w' mb (k + 9 ^ (c + 1)) M' ∧ MInv T n M' ∧ Ext M M' ∧ (t = true → (∀ q, H q = false) ∨ (M' H).isSome = true) ∧ Fr (fun q => q = mb) w w' := by
  have h8 := hG.eight
  have H8 : Hid (In8 H) := fun q hq => hsub q (by omega)
  have hpow : k + 8 * 9 ^ c + 1 ≤ k + 9 ^ (c + 1) := by
    have : 1 ≤ 9 ^ c := Nat.one_le_pow _ _ (by omega)
    rw [Nat.pow_succ]
    omega
  obtain ⟨r, hr, hi⟩ := run_eqset H (fun _ => false) (w.alloc (.cells #[.bool (H 0), .bool (H 1), .bool (H 2), .bool (H 3), .bool (H 4), .bool (H 5), .bool (H 6), .bool (H 7)] 86))
  obtain rfl : r = false := by
    cases r with
    | false => rfl
    | true =>
      have h0 := hi.1 rfl
      have : ∀ m, m ≤ n → cntS H m = 0 := by
        intro m
        induction m with
        | zero => intro _; rfl
        | succ m ih =>
          intro hm
          simp only [cntS]
          rw [ih (by omega), if_neg (by rw [h0 m (by omega)]; simp)]
      have := this n (Nat.le_refl _)
      omega
  have HF0 : Hid (Fr (fun q => q = mb) w (w.alloc (.cells #[.bool (H 0), .bool (H 1), .bool (H 2), .bool (H 3), .bool (H 4), .bool (H 5), .bool (H 6), .bool (H 7)] 86))) := (Fr.refl _ _).alloc _
  have hm0 : SMap (w.alloc (.cells #[.bool (H 0), .bool (H 1), .bool (H 2), .bool (H 3), .bool (H 4), .bool (H 5), .bool (H 6), .bool (H 7)] 86)) mb k M := hmap.of_block (Deep.blk_alloc_lt _ _ _ hmap.lt)
  have HE0 : Hid (SEnv (w.alloc (.cells #[.bool (H 0), .bool (H 1), .bool (H 2), .bool (H 3), .bool (H 4), .bool (H 5), .bool (H 6), .bool (H 7)] 86)) sb g mb n T) := henv.fr HF0.out
  have y1 := HE0.out.s1
  have hlt := HE0.out.lts
  have HO0 : Hid ((w.alloc (.cells #[.bool (H 0), .bool (H 1), .bool (H 2), .bool (H 3), .bool (H 4), .bool (H 5), .bool (H 6), .bool (H 7)] 86)).rowIs w.heap.size 86 8 (fun q => .bool (H q))) := set_row w H
  obtain ⟨x, hrun, hx⟩ := run_slook (w := (w.alloc (.cells #[.bool (H 0), .bool (H 1), .bool (H 2), .bool (H 3), .bool (H 4), .bool (H 5), .bool (H 6), .bool (H 7)] 86)).drew) H8.out (hm0.of_block rfl)
  have HM0 : Hid (SMap (w.alloc (.cells #[.bool (H 0), .bool (H 1), .bool (H 2), .bool (H 3), .bool (H 4), .bool (H 5), .bool (H 6), .bool (H 7)] 86)) mb k M) := hm0
  have HCH : Hid (ChooseC T n sb g mb c) := hch
  have HINV : Hid (MInv T n M) := hinv
  have HSUB : Hid (∀ q, n ≤ q → H q = false) := hsub
  have HCNT : Hid (cntS H n = c + 1) := hcnt
  have HP1 : Hid ((w.alloc (.cells #[.bool (H 0), .bool (H 1), .bool (H 2), .bool (H 3), .bool (H 4), .bool (H 5), .bool (H 6), .bool (H 7)] 86)).heap[w.heap.size]? = some (.cells #[.bool (H 0), .bool (H 1), .bool (H 2), .bool (H 3), .bool (H 4), .bool (H 5), .bool (H 6), .bool (H 7)] 86 (0, 0))) := row8 HO0.out
  have e0 := HO0.out.cell (i := 0) (by omega)
  have e1 := HO0.out.cell (i := 1) (by omega)
  have e2 := HO0.out.cell (i := 2) (by omega)
  have e3 := HO0.out.cell (i := 3) (by omega)
  have e4 := HO0.out.cell (i := 4) (by omega)
  have e5 := HO0.out.cell (i := 5) (by omega)
  have e6 := HO0.out.cell (i := 6) (by omega)
  have e7 := HO0.out.cell (i := 7) (by omega)
  have hol := HO0.out.lt
  unfold setV at hrun hr
  unfold setV
  clear hG hch henv hmap hinv hsub hcnt hi hm0
  go_enter Try.func65, Try.ntmps65
  go_wp2
  generalize (w.alloc (.cells #[.bool (H 0), .bool (H 1), .bool (H 2), .bool (H 3), .bool (H 4), .bool (H 5), .bool (H 6), .bool (H 7)] 86)) = W at *
  cases hM : M H with
  | some y =>
    rw [hM] at hrun
    obtain rfl : x = y := hx y hM
    have HC : Hid (Chosen T n M H x) := HINV.out H x H8.out hM
    have HT : Hid ((x != -1) = true ↔ Poss T n H) := chosen_iff HC.out
    have HS : Hid ((M H).isSome = true) := by unfold Hid; rw [hM]; rfl
    clear hx hM
    simp only [Option.isSome_some] at hrun
    go_region
    all_goals
      clear e0 e1 e2 e3 e4 e5 e6 e7 y1 hrun hr
      go_wp2
      go_ret
      exact ⟨_, M, rfl, HT.out, (HM0.out.of_block rfl).mono (Nat.le_add_right _ _), HINV.out, Ext.refl _, fun _ => .inr HS.out, HF0.out.drew⟩
  | none =>
    rw [hM] at hrun
    have HNONE : Hid (M H = none) := hM
    clear hx hM
    simp only [Option.isSome_none] at hrun
    go_region
    all_goals
      clear hrun hr
      go_wp2_with fail
      have HCC : Hid (Calls Try.prog 92 #[.pointer (some ⟨sb, 0, none⟩), .agg #[.bool (H 0), .bool (H 1), .bool (H 2), .bool (H 3), .bool (H 4), .bool (H 5), .bool (H 6), .bool (H 7)]] W.drew fun e w' => ∃ (x : Int) (M' : (Nat → Bool) → Option Int), e = .returned (.int .i64 x) ∧ -1 ≤ x ∧ x < n ∧ Chosen T n M' H x ∧ SMap w' mb (k + 8 * 9 ^ c) M' ∧ MInv T n M' ∧ Ext M M' ∧ Fr (fun q => q = mb) W.drew w') :=
        HCH.out H M k W.drew HCNT.out HSUB.out (HE0.out.fr (Fr.refl _ _).drew) (HM0.out.of_block rfl) HINV.out (by omega)
      refine (HCC.out).mono ?_
      rintro e w1 ⟨x1, M1, rfl, hx0, hx1, hcs, hsm1, hmi1, hext1, hfr1⟩
      have hfr2 : Fr (fun q => q = mb) w w1 := HF0.out.drew.then hfr1
      have hne : w.heap.size ≠ mb := by have := HM0.out.lt; have := HE0.out.nes; intro h; subst h; exact absurd (HM0.out.ne HO0.out) (by simp)
      have hro1 : w1.rowIs w.heap.size 86 8 (fun q => .bool (H q)) := hfr1.row (HO0.out.of_block rfl) hne
      have f0 := hro1.cell (i := 0) (by omega)
      have f1 := hro1.cell (i := 1) (by omega)
      have f2 := hro1.cell (i := 2) (by omega)
      have f3 := hro1.cell (i := 3) (by omega)
      have f4 := hro1.cell (i := 4) (by omega)
      have f5 := hro1.cell (i := 5) (by omega)
      have f6 := hro1.cell (i := 6) (by omega)
      have f7 := hro1.cell (i := 7) (by omega)
      have y2 := (HE0.out.fr ((Fr.refl _ _).drew.then hfr1)).s1
      have hl2 := (HE0.out.fr ((Fr.refl _ _).drew.then hfr1)).lts
      have hl3 := hro1.lt
      obtain ⟨w2, hrun2, hsm2, hfr3⟩ := run_sput (w := w1.drew) (x := x1) H8.out (by unfold maxLen; omega) (WalkArith.wf_i64 (by omega)) (hsm1.of_block rfl)
      unfold setV at hrun2
      have HCS : Hid (Chosen T n M1 H x1) := hcs
      have HT : Hid ((x1 != -1) = true ↔ Poss T n H) := chosen_iff hcs
      have HQ1 : Hid (SMap w2 mb (k + 9 ^ (c + 1)) (sput M1 H x1)) := hsm2.mono (by omega)
      have HQ2 : Hid (MInv T n (sput M1 H x1)) := hmi1.put H8.out hcs
      have HQ3 : Hid (Ext M (sput M1 H x1)) := Ext.put H8.out HNONE.out hext1
      have HQ4 : Hid ((sput M1 H x1 H).isSome = true) := by unfold Hid; rw [sput_self]; rfl
      have HQ5 : Hid (Fr (fun q => q = mb) w w2) := hfr2.drew.then hfr3
      clear hro1 hfr1 HCC e0 e1 e2 e3 e4 e5 e6 e7 y1 hcs hsm1 hmi1 hext1 hfr2 hsm2 hfr3 HNONE
      go_wp2_with fail
      go_region
      all_goals
        clear f0 f1 f2 f3 f4 f5 f6 f7 y2 hrun2
        go_wp2
        go_ret
        exact ⟨_, _, rfl, HT.out, HQ1.out, HQ2.out, HQ3.out, fun _ => .inr HQ4.out, HQ5.out⟩

theorem poss_all {T : TD} {n sb g mb : Nat} (hG : Good T n) : ∀ c, PossC T n sb g mb c := by
  intro c
  induction c using Nat.strongRecOn with
  | ind c ih =>
    intro H M k w hcnt hsub henv hmap hinv hk
    rcases Nat.eq_zero_or_pos (cntS H n) with h0 | h0
    · have hz := cntS_zero n h0
      have h8 := hG.eight
      have hall : ∀ q, H q = false := fun q => by
        by_cases hq : q < n
        · exact hz q hq
        · exact hsub q (by omega)
      refine (possible_none sb H w (fun q _ => hall q)).mono ?_
      rintro e w' ⟨rfl, hb⟩
      exact ⟨true, M, rfl, ⟨fun _ => Poss.nobody hz, fun _ => rfl⟩, (hmap.of_block (hb.block _ hmap.lt)).mono (Nat.le_add_right _ _), hinv, Ext.refl _, fun _ => .inl hall, Fr.of_below _ hb⟩
    · obtain ⟨d, hd⟩ : ∃ d, cntS H n = d + 1 := ⟨cntS H n - 1, by omega⟩
      have hle : 9 ^ (d + 1) ≤ 9 ^ c := Nat.pow_le_pow_right (by omega) (by omega)
      refine (possible_some hG (choose_any hG (ih d (by omega))) H M k w hd hsub henv hmap hinv (by omega)).mono ?_
      rintro e w' ⟨t, M', h1, h2, h3, h4⟩
      exact ⟨t, M', h1, h2, h3.mono (by omega), h4⟩

end Go.Proofs.Ytdabcflpcklfiaa
