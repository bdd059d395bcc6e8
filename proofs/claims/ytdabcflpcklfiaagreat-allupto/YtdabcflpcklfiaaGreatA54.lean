import Derived.Test.YtdabcflpcklfiaaGreatA53
import Derived.Test.YtdabcflpcklfiaaGreatA24
import Derived.Test.YtdabcflpcklfiaaGreatA52
/- Whether a set is possible. -/
namespace Go.Proofs.YtdabcflpcklfiaaGreat
open Go.RowKit

theorem run_eqset (H H' : Nat → Bool) (w : World) : ∃ r : Bool, (Op.equalIn 10000 128 (setV H) (setV H')).run Tryz.prog w = .ok r w ∧ (r = true ↔ ∀ q, q < 8 → H q = H' q) := by
  have hform : ∀ H : Nat → Bool, (setV H).formed Tryz.prog 128 = true := fun H => by
    simp only [setV, Value.formed, Tryz.underlying128, Tryz.cellsS]
    rfl
  obtain ⟨r, h1, h2⟩ := run_equalIn_deep 9998 2 128 Tryz.deepS w 2 2 (setV H) (setV H') _ _ (hform H) (hform H') (lits_set 0 (H 0) (H 1) (H 2) (H 3) (H 4) (H 5) (H 6) (H 7)) (lits_set 0 (H' 0) (H' 1) (H' 2) (H' 3) (H' 4) (H' 5) (H' 6) (H' 7))
  refine ⟨r, h1, h2.trans ?_⟩
  constructor
  · intro h q hq
    simp at h
    obtain ⟨e0, e1, e2, e3, e4, e5, e6, e7⟩ := h
    match q, hq with
    | 0, _ => exact e0
    | 1, _ => exact e1
    | 2, _ => exact e2
    | 3, _ => exact e3
    | 4, _ => exact e4
    | 5, _ => exact e5
    | 6, _ => exact e6
    | 7, _ => exact e7
  · intro h
    rw [h 0 (by omega), h 1 (by omega), h 2 (by omega), h 3 (by omega), h 4 (by omega), h 5 (by omega), h 6 (by omega), h 7 (by omega)]

set_option maxRecDepth 100000 in
set_option maxHeartbeats 2000000 in
theorem possible_none (sb : Nat) (H : Nat → Bool) (w : World) (h0 : ∀ q, q < 8 → H q = false) :
    Calls Tryz.prog 98 #[.pointer (some ⟨sb, 0, none⟩), setV H] w fun e w' => e = .returned (.bool true) ∧ Below w.heap.size w w' := by
  obtain ⟨r, hr, hi⟩ := run_eqset H (fun _ => false) (w.alloc (.cells #[.bool (H 0), .bool (H 1), .bool (H 2), .bool (H 3), .bool (H 4), .bool (H 5), .bool (H 6), .bool (H 7)] 128))
  obtain rfl : r = true := hi.2 h0
  unfold setV at hr
  unfold setV
  clear hi h0
  have HB : Hid (Below w.heap.size w (w.alloc (.cells #[.bool (H 0), .bool (H 1), .bool (H 2), .bool (H 3), .bool (H 4), .bool (H 5), .bool (H 6), .bool (H 7)] 128))) := below_alloc1 _ _
  go_enter Tryz.func98, Tryz.ntmps98
  go_wp2
  go_ret
  exact ⟨rfl, HB.out⟩

set_option maxRecDepth 100000 in
set_option maxHeartbeats 2000000 in
theorem possible_some {T : TD} {n sb g mb c : Nat} (hG : Good T n) (hch : ChooseC T n sb g mb c) (H : Nat → Bool) (M : (Nat → Bool) → Option Int) (k : Nat) (w : World) (hcnt : cntS H n = c + 1) (hsub : ∀ q, n ≤ q → H q = false) (henv : SEnv w sb g mb n T) (hmap : SMap w mb k M) (hinv : MInv T n M) (hk : k + 9 ^ (c + 1) ≤ 1000000000) :
  Calls Tryz.prog 98 #[.pointer (some ⟨sb, 0, none⟩), setV H] w fun e w' => ∃ (t : Bool) (M' : (Nat → Bool) → Option Int), e = .returned (.bool t) ∧ (t = true ↔ Poss T n H) ∧ SMap w' mb (k + 9 ^ (c + 1)) M' ∧ MInv T n M' ∧ Ext M M' ∧ (t = true → (∀ q, H q = false) ∨ (M' H).isSome = true) ∧ Fr (fun q => q = mb) w w' := by
  have h8 := hG.eight
  have H8 : Hid (In8 H) := fun q hq => hsub q (by omega)
  have hpow : k + 8 * 9 ^ c + 1 ≤ k + 9 ^ (c + 1) := by
    have : 1 ≤ 9 ^ c := Nat.one_le_pow _ _ (by omega)
    rw [Nat.pow_succ]
    omega
  obtain ⟨r, hr, hi⟩ := run_eqset H (fun _ => false) (w.alloc (.cells #[.bool (H 0), .bool (H 1), .bool (H 2), .bool (H 3), .bool (H 4), .bool (H 5), .bool (H 6), .bool (H 7)] 128))
  obtain rfl : r = false := by
    cases r with
    | false => rfl
    | true =>
      have h0 := hi.1 rfl
      have : ∀ m, m ≤ n → cntS H m = 0 := by
        intro m
        induction m with
        | zero => intro _; rfl
        | succ m ih =>
          intro hm
          simp only [cntS]
          rw [ih (by omega), if_neg (by rw [h0 m (by omega)]; simp)]
      have := this n (Nat.le_refl _)
      omega
  have HF0 : Hid (Fr (fun q => q = mb) w (w.alloc (.cells #[.bool (H 0), .bool (H 1), .bool (H 2), .bool (H 3), .bool (H 4), .bool (H 5), .bool (H 6), .bool (H 7)] 128))) := (Fr.refl _ _).alloc _
  have hm0 : SMap (w.alloc (.cells #[.bool (H 0), .bool (H 1), .bool (H 2), .bool (H 3), .bool (H 4), .bool (H 5), .bool (H 6), .bool (H 7)] 128)) mb k M := hmap.of_block (Deep.blk_alloc_lt _ _ _ hmap.lt)
  have HE0 : Hid (SEnv (w.alloc (.cells #[.bool (H 0), .bool (H 1), .bool (H 2), .bool (H 3), .bool (H 4), .bool (H 5), .bool (H 6), .bool (H 7)] 128)) sb g mb n T) := henv.fr HF0.out
  have y1 := HE0.out.s1
  have hlt := HE0.out.lts
  have HO0 : Hid ((w.alloc (.cells #[.bool (H 0), .bool (H 1), .bool (H 2), .bool (H 3), .bool (H 4), .bool (H 5), .bool (H 6), .bool (H 7)] 128)).rowIs w.heap.size 128 8 (fun q => .bool (H q))) := set_row w H
  obtain ⟨x, hrun, hx⟩ := run_slook (w := (w.alloc (.cells #[.bool (H 0), .bool (H 1), .bool (H 2), .bool (H 3), .bool (H 4), .bool (H 5), .bool (H 6), .bool (H 7)] 128)).drew) H8.out (hm0.of_block rfl)
  have HM0 : Hid (SMap (w.alloc (.cells #[.bool (H 0), .bool (H 1), .bool (H 2), .bool (H 3), .bool (H 4), .bool (H 5), .bool (H 6), .bool (H 7)] 128)) mb k M) := hm0
  have HCH : Hid (ChooseC T n sb g mb c) := hch
  have HINV : Hid (MInv T n M) := hinv
  have HSUB : Hid (∀ q, n ≤ q → H q = false) := hsub
  have HCNT : Hid (cntS H n = c + 1) := hcnt
  have HP1 : Hid ((w.alloc (.cells #[.bool (H 0), .bool (H 1), .bool (H 2), .bool (H 3), .bool (H 4), .bool (H 5), .bool (H 6), .bool (H 7)] 128)).heap[w.heap.size]? = some (.cells #[.bool (H 0), .bool (H 1), .bool (H 2), .bool (H 3), .bool (H 4), .bool (H 5), .bool (H 6), .bool (H 7)] 128 (0, 0))) := row8 HO0.out
  have e0 := HO0.out.cell (i := 0) (by omega)
  have e1 := HO0.out.cell (i := 1) (by omega)
  have e2 := HO0.out.cell (i := 2) (by omega)
  have e3 := HO0.out.cell (i := 3) (by omega)
  have e4 := HO0.out.cell (i := 4) (by omega)
  have e5 := HO0.out.cell (i := 5) (by omega)
  have e6 := HO0.out.cell (i := 6) (by omega)
  have e7 := HO0.out.cell (i := 7) (by omega)
  have hol := HO0.out.lt
  unfold setV at hrun hr
  unfold setV
  clear hG hch henv hmap hinv hsub hcnt hi hm0
  go_enter Tryz.func98, Tryz.ntmps98
  go_wp2
  generalize (w.alloc (.cells #[.bool (H 0), .bool (H 1), .bool (H 2), .bool (H 3), .bool (H 4), .bool (H 5), .bool (H 6), .bool (H 7)] 128)) = W at *
  cases hM : M H with
  | some y =>
    rw [hM] at hrun
    obtain rfl : x = y := hx y hM
    have HC : Hid (Chosen T n M H x) := HINV.out H x H8.out hM
    have HT : Hid ((x != -1) = true ↔ Poss T n H) := chosen_iff HC.out
    have HS : Hid ((M H).isSome = true) := by unfold Hid; rw [hM]; rfl
    clear hx hM
    simp only [Option.isSome_some] at hrun
    go_region
    all_goals
      clear e0 e1 e2 e3 e4 e5 e6 e7 y1 hrun hr
      go_wp2
      go_ret
      exact ⟨_, M, rfl, HT.out, (HM0.out.of_block rfl).mono (Nat.le_add_right _ _), HINV.out, Ext.refl _, fun _ => .inr HS.out, HF0.out.drew⟩
  | none =>
    rw [hM] at hrun
    have HNONE : Hid (M H = none) := hM
    clear hx hM
    simp only [Option.isSome_none] at hrun
    go_region
    all_goals
      clear hrun hr
      go_wp2_with fail
      have HCC : Hid (Calls Tryz.prog 127 #[.pointer (some ⟨sb, 0, none⟩), .agg #[.bool (H 0), .bool (H 1), .bool (H 2), .bool (H 3), .bool (H 4), .bool (H 5), .bool (H 6), .bool (H 7)]] W.drew fun e w' => ∃ (x : Int) (M' : (Nat → Bool) → Option Int), e = .returned (.int .i64 x) ∧ -1 ≤ x ∧ x < n ∧ Chosen T n M' H x ∧ SMap w' mb (k + 8 * 9 ^ c) M' ∧ MInv T n M' ∧ Ext M M' ∧ Fr (fun q => q = mb) W.drew w') :=
        HCH.out H M k W.drew HCNT.out HSUB.out (HE0.out.fr (Fr.refl _ _).drew) (HM0.out.of_block rfl) HINV.out (by omega)
      refine (HCC.out).mono ?_
      rintro e w1 ⟨x1, M1, rfl, hx0, hx1, hcs, hsm1, hmi1, hext1, hfr1⟩
      have hfr2 : Fr (fun q => q = mb) w w1 := HF0.out.drew.then hfr1
      have hne : w.heap.size ≠ mb := by have := HM0.out.lt; have := HE0.out.nes; intro h; subst h; exact absurd (HM0.out.ne HO0.out) (by simp)
      have hro1 : w1.rowIs w.heap.size 128 8 (fun q => .bool (H q)) := hfr1.row (HO0.out.of_block rfl) hne
      have f0 := hro1.cell (i := 0) (by omega)
      have f1 := hro1.cell (i := 1) (by omega)
      have f2 := hro1.cell (i := 2) (by omega)
      have f3 := hro1.cell (i := 3) (by omega)
      have f4 := hro1.cell (i := 4) (by omega)
      have f5 := hro1.cell (i := 5) (by omega)
      have f6 := hro1.cell (i := 6) (by omega)
      have f7 := hro1.cell (i := 7) (by omega)
      have y2 := (HE0.out.fr ((Fr.refl _ _).drew.then hfr1)).s1
      have hl2 := (HE0.out.fr ((Fr.refl _ _).drew.then hfr1)).lts
      have hl3 := hro1.lt
      obtain ⟨w2, hrun2, hsm2, hfr3⟩ := run_sput (w := w1.drew) (x := x1) H8.out (by unfold maxLen; omega) (WalkArith.wf_i64 (by omega)) (hsm1.of_block rfl)
      unfold setV at hrun2
      have HCS : Hid (Chosen T n M1 H x1) := hcs
      have HT : Hid ((x1 != -1) = true ↔ Poss T n H) := chosen_iff hcs
      have HQ1 : Hid (SMap w2 mb (k + 9 ^ (c + 1)) (sput M1 H x1)) := hsm2.mono (by omega)
      have HQ2 : Hid (MInv T n (sput M1 H x1)) := hmi1.put H8.out hcs
      have HQ3 : Hid (Ext M (sput M1 H x1)) := Ext.put H8.out HNONE.out hext1
      have HQ4 : Hid ((sput M1 H x1 H).isSome = true) := by unfold Hid; rw [sput_self]; rfl
      have HQ5 : Hid (Fr (fun q => q = mb) w w2) := hfr2.drew.then hfr3
      clear hro1 hfr1 HCC e0 e1 e2 e3 e4 e5 e6 e7 y1 hcs hsm1 hmi1 hext1 hfr2 hsm2 hfr3 HNONE
      go_wp2_with fail
      go_region
      all_goals
        clear f0 f1 f2 f3 f4 f5 f6 f7 y2 hrun2
        go_wp2
        go_ret
        exact ⟨_, _, rfl, HT.out, HQ1.out, HQ2.out, HQ3.out, fun _ => .inr HQ4.out, HQ5.out⟩

theorem poss_all {T : TD} {n sb g mb : Nat} (hG : Good T n) : ∀ c, PossC T n sb g mb c := by
  intro c
  induction c using Nat.strongRecOn with
  | ind c ih =>
    intro H M k w hcnt hsub henv hmap hinv hk
    rcases Nat.eq_zero_or_pos (cntS H n) with h0 | h0
    · have hz := cntS_zero n h0
      have h8 := hG.eight
      have hall : ∀ q, H q = false := fun q => by
        by_cases hq : q < n
        · exact hz q hq
        · exact hsub q (by omega)
      refine (possible_none sb H w (fun q _ => hall q)).mono ?_
      rintro e w' ⟨rfl, hb⟩
      exact ⟨true, M, rfl, ⟨fun _ => Poss.nobody hz, fun _ => rfl⟩, (hmap.of_block (hb.block _ hmap.lt)).mono (Nat.le_add_right _ _), hinv, Ext.refl _, fun _ => .inl hall, Fr.of_below _ hb⟩
    · obtain ⟨d, hd⟩ : ∃ d, cntS H n = d + 1 := ⟨cntS H n - 1, by omega⟩
      have hle : 9 ^ (d + 1) ≤ 9 ^ c := Nat.pow_le_pow_right (by omega) (by omega)
      refine (possible_some hG (choose_any hG (ih d (by omega))) H M k w hd hsub henv hmap hinv (by omega)).mono ?_
      rintro e w' ⟨t, M', h1, h2, h3, h4⟩
      exact ⟨t, M', h1, h2, h3.mono (by omega), h4⟩

end Go.Proofs.YtdabcflpcklfiaaGreat

/- Priorities are found. -/
namespace Go.Proofs.YtdabcflpcklfiaaGreat
open Go.RowKit

theorem SEnv.of {w w' : World} {sb g mb n : Nat} {T : TD} (h : SEnv w sb g mb n T) (hs : w'.heap[sb]? = w.heap[sb]?) (hg : w'.heap[g]? = w.heap[g]?) (hl : w.heap.size ≤ w'.heap.size) : SEnv w' sb g mb n T := by
  have c : ∀ b q, w'.heap[b]? = w.heap[b]? → w'.cell? ⟨b, q, none⟩ = w.cell? ⟨b, q, none⟩ := fun b q e => by simp [World.cell?, e]
  refine ⟨(c _ _ hs).trans h.s0, (c _ _ hs).trans h.s1, fun i hi => ?_, by have := h.lts; omega, by have := h.ltg; omega, h.nes, h.neg⟩
  have d := fun q => c g q hg
  rw [d, d, d, d, d, d, d, d, d, d, d, d]
  exact h.sys i hi

theorem pair_row (w : World) (a b : Value) (t : Nat) : (w.alloc (.cells #[a, b] t)).rowIs w.heap.size t 2 (fun q => if q = 0 then a else b) :=
  World.rowIs_alloc w #[a, b] t _ (fun i hi => by
    have hi' : i < 2 := hi
    match i, hi' with
    | 0, _ => rfl
    | 1, _ => rfl)

/-- While priorities are given. -/
structure FindInv (T : TD) (n sb g mb ob pb B : Nat) (w wr : World) (p : Nat) : Prop where
  env : SEnv wr sb g mb n T
  row : ∃ H Z M k, Part True T n p H Z ∧ Poss T n H ∧ wr.rowIs ob 128 8 (fun q => .bool (H q)) ∧ wr.rowIs pb 3 n (fun q => .int .i64 (Z q)) ∧ SMap wr mb k M ∧ MInv T n M ∧ ((∀ q, H q = false) ∨ (M H).isSome = true)
  bel : Below B w wr

set_option maxRecDepth 100000 in
set_option maxHeartbeats 2000000 in
theorem find_any (g n : Nat) (T : TD) (w : World) (hG : Good T n) (hg : g < w.heap.size) (hS : SysAt w g n T) :
    Calls Tryz.prog 67 #[.slice (some ⟨g, 0, none⟩) n n] w fun e w' => (e = .returned (.slice none 0 0) ∧ ¬ Poss T n (fun q => decide (q < n)) ∨ ∃ pb Z, e = .returned (.slice (some ⟨pb, 0, none⟩) n n) ∧ w.heap.size ≤ pb ∧ w'.rowIs pb 3 n (fun q => .int .i64 (Z q)) ∧ Cad.PrioB Z n ∧ (∀ i, i < n → Has T n (abv Z n i) i) ∧ (∀ i, i < n → Low T n (fun q => if q < n then decide (Z i ≤ Z q) else false) i)) ∧ Below w.heap.size w w' := by
  obtain ⟨i0, hi0, hq0, hq1, hq2⟩ := info_parts Tryz.info3
  have h8 := hG.eight
  have h1 := hG.one
  have HG : Hid (Good T n) := hG
  have HS : Hid (SysAt w g n T) := hS
  have hmm := @run_makeMap Tryz.prog
  clear hG hS
  have HB0 : Hid (Below w.heap.size w (((w.alloc (.map #[] 0)).alloc (.cells #[.slice (some ⟨g, 0, none⟩) n n, .map (some w.heap.size)] 174)).alloc (.cells #[.bool false, .bool false, .bool false, .bool false, .bool false, .bool false, .bool false, .bool false] 128))) := ((below_alloc1 _ _).alloc (by simp) _).alloc (by simp; omega) _
  have HO0 : Hid ((((w.alloc (.map #[] 0)).alloc (.cells #[.slice (some ⟨g, 0, none⟩) n n, .map (some w.heap.size)] 174)).alloc (.cells #[.bool false, .bool false, .bool false, .bool false, .bool false, .bool false, .bool false, .bool false] 128)).rowIs (w.heap.size + 1 + 1) 128 8 fls) := false8 _ 128 _ (by simp)
  have HM0 : Hid (SMap (((w.alloc (.map #[] 0)).alloc (.cells #[.slice (some ⟨g, 0, none⟩) n n, .map (some w.heap.size)] 174)).alloc (.cells #[.bool false, .bool false, .bool false, .bool false, .bool false, .bool false, .bool false, .bool false] 128)) w.heap.size 0 (fun _ => none)) := (SMap.made w).of_block ((Deep.blk_alloc_lt _ _ _ (by simp; omega)).trans (Deep.blk_alloc_lt _ _ _ (by simp)))
  have HE0 : Hid (SEnv (((w.alloc (.map #[] 0)).alloc (.cells #[.slice (some ⟨g, 0, none⟩) n n, .map (some w.heap.size)] 174)).alloc (.cells #[.bool false, .bool false, .bool false, .bool false, .bool false, .bool false, .bool false, .bool false] 128)) (w.heap.size + 1) g w.heap.size n T) := by
    have hp : (((w.alloc (.map #[] 0)).alloc (.cells #[.slice (some ⟨g, 0, none⟩) n n, .map (some w.heap.size)] 174)).alloc (.cells #[.bool false, .bool false, .bool false, .bool false, .bool false, .bool false, .bool false, .bool false] 128)).rowIs (w.heap.size + 1) 174 2 (fun q => if q = 0 then .slice (some ⟨g, 0, none⟩) n n else .map (some w.heap.size)) := by
      have := (pair_row (w.alloc (.map #[] 0)) (.slice (some ⟨g, 0, none⟩) n n) (.map (some w.heap.size)) 174).alloc (.cells #[.bool false, .bool false, .bool false, .bool false, .bool false, .bool false, .bool false, .bool false] 128)
      rw [World.size_alloc] at this
      exact this
    exact ⟨hp.cell (i := 0) (by omega), hp.cell (i := 1) (by omega), SysAt.below HS.out hg HB0.out, hp.lt, by have := HB0.out.size; omega, by omega, by omega⟩
  go_enter Tryz.func67, Tryz.ntmps67
  go_wp2
  generalize (((w.alloc (.map #[] 0)).alloc (.cells #[.slice (some ⟨g, 0, none⟩) n n, .map (some w.heap.size)] 174)).alloc (.cells #[.bool false, .bool false, .bool false, .bool false, .bool false, .bool false, .bool false, .bool false] 128)) = W0 at *
  generalize hob : w.heap.size + 1 + 1 = ob at *
  generalize hsb : w.heap.size + 1 = sb at *
  have hmb : ob ≠ w.heap.size := by omega
  have hos : ob ≠ sb := by omega
  have hog : ob ≠ g := by omega
  have hBo : w.heap.size ≤ ob := by omega
  clear hmm
  go_loopw [14] (fun iv wr => ∃ k : Nat, k ≤ n ∧ iv = .int .i64 k ∧ wr.rowIs ob 128 8 (fun q => .bool (decide (q < k))) ∧ Fr (fun q => q = ob) W0 wr) (fun iv _ => n - (intOf iv).toNat)
  case atStart => exact ⟨0, Nat.zero_le _, rfl, HO0.out.congr (fun q _ => by simp [fls]), Fr.refl _ _⟩
  case round =>
    obtain ⟨k, hk, rfl, hro, hfr⟩ := hrel
    by_cases hlt : k < n
    · have x0 : wr.cell? ⟨ob, k, none⟩ = some (.bool (decide (k < k))) := hro.cell (by omega)
      have z0 := hro.frozen k
      have FH : Hid ((wr.setCell ⟨ob, k, none⟩ (.bool true)).rowIs ob 128 8 (fun q => .bool (decide (q < k + 1)))) := (hro.set k _).congr (fun q _ => by
        by_cases e : q = k
        · subst e; simp
        · rw [if_neg e]
          congr 1
          simp only [decide_eq_decide]
          omega)
      have FR : Hid (Fr (fun q => q = ob) W0 (wr.setCell ⟨ob, k, none⟩ (.bool true))) := hfr.setCell (.inl rfl) _
      have hk8 : (k : Int) < 8 := by omega
      clear hro hfr
      go_wp2
      go_roundw
      case rel => exact ⟨k + 1, by omega, by go_num, FH.out, FR.out⟩
      case measure => simp [intOf]; omega
    · obtain rfl : k = n := by omega
      have HRO : Hid (wr.rowIs ob 128 8 (fun q => .bool (decide (q < k)))) := hro
      have HFR : Hid (Fr (fun q => q = ob) W0 wr) := hfr
      have HE1 : Hid (SEnv wr sb g w.heap.size k T) := HE0.out.of (hfr.block _ HE0.out.lts (Ne.symm hos)) (hfr.block _ HE0.out.ltg (Ne.symm hog)) hfr.size
      have HM1 : Hid (SMap wr w.heap.size 0 (fun _ => none)) := HM0.out.of_block (hfr.block _ HM0.out.lt (Ne.symm hmb))
      have HB1 : Hid (Below w.heap.size w wr) := HB0.out.trans (hfr.below HB0.out.size (fun q hq => by omega))
      have HP1 : Hid (wr.heap[ob]? = some (.cells #[.bool (decide (0 < k)), .bool (decide (1 < k)), .bool (decide (2 < k)), .bool (decide (3 < k)), .bool (decide (4 < k)), .bool (decide (5 < k)), .bool (decide (6 < k)), .bool (decide (7 < k))] 128 (0, 0))) := row8 hro
      clear hro hfr HE0 HM0 HB0 HO0
      have HCALL : Hid (Calls Tryz.prog 98 #[.pointer (some ⟨sb, 0, none⟩), .agg #[.bool (decide (0 < k)), .bool (decide (1 < k)), .bool (decide (2 < k)), .bool (decide (3 < k)), .bool (decide (4 < k)), .bool (decide (5 < k)), .bool (decide (6 < k)), .bool (decide (7 < k))]] wr fun e w' => ∃ (t : Bool) (M' : (Nat → Bool) → Option Int), e = .returned (.bool t) ∧ (t = true ↔ Poss T k (fun q => decide (q < k))) ∧ SMap w' w.heap.size (0 + 9 ^ k) M' ∧ MInv T k M' ∧ Ext (fun _ => none) M' ∧ (t = true → (∀ q, (fun q => decide (q < k)) q = false) ∨ (M' (fun q => decide (q < k))).isSome = true) ∧ Fr (fun q => q = w.heap.size) wr w') := by
        refine (poss_all HG.out k (fun q => decide (q < k)) (fun _ => none) 0 wr (cntS_le _) (fun q hq => by simpa using hq) HE1.out HM1.out (fun H x _ h => by cases h) ?_)
        have : 9 ^ k ≤ 9 ^ 8 := Nat.pow_le_pow_right (by omega) h8
        omega
      go_wp2_with (refine wpList_load_row rfl 128 (.tmp 4) rfl ob rfl 128 #[.bool (decide (0 < k)), .bool (decide (1 < k)), .bool (decide (2 < k)), .bool (decide (3 < k)), .bool (decide (4 < k)), .bool (decide (5 < k)), .bool (decide (6 < k)), .bool (decide (7 < k))] (0, 0) _ HP1.out Tryz.underlying128 rfl (by kernel_rfl) ?_)
      refine (HCALL.out).mono ?_
      rintro e w2 ⟨t, M2, rfl, hposs, hsm, hmi, _, hin, hfr2⟩
      have HFR2 : Hid (Fr (fun q => q = w.heap.size) wr w2) := hfr2
      have HB2 : Hid (Below w.heap.size w w2) := HB1.out.trans (hfr2.below HB1.out.size (fun q hq => by omega))
      cases t with
      | false =>
        have hno : Hid (¬ Poss T k (fun q => decide (q < k))) := fun h => by have := hposs.2 h; cases this
        clear hposs hsm hmi hin hfr2 HCALL
        go_wp2
        go_ret
        exact ⟨.inl ⟨rfl, hno.out⟩, HB2.out⟩
      | true =>
        have HPO : Hid (Poss T k (fun q => decide (q < k))) := hposs.1 rfl
        have HIN : Hid ((∀ q, (fun q => decide (q < k)) q = false) ∨ (M2 (fun q => decide (q < k))).isSome = true) := hin rfl
        have HSM2 : Hid (SMap w2 w.heap.size (0 + 9 ^ k) M2) := hsm
        have HMI2 : Hid (MInv T k M2) := hmi
        have HRO2 : Hid (w2.rowIs ob 128 8 (fun q => .bool (decide (q < k)))) := hfr2.row HRO.out hmb
        have HE2 : Hid (SEnv w2 sb g w.heap.size k T) := HE1.out.fr hfr2
        clear hposs hsm hmi hin hfr2 HCALL
        go_wp2_with (at_make; refine wpList_make_is _ rfl _ _ 23 rfl 3 i0 _ 1 8 Tryz.underlying23 hi0 hq0 hq1 hq2 _ _ _ _ k rfl rfl (by omega) (by omega) (by omega) (by omega) z1 zero_1 ?_)
        intro w3 hr3 hg3 hs3
        have hb3 : Below w2.heap.size w2 w3 := (Below.refl _ _).grown hg3 (Nat.le_refl _) (fun k hk => by cases hk)
        have hr3' : w3.rowIs w2.heap.size 3 k z1 := by simpa using hr3
        have hl2 := HRO2.out.lt
        have hb2 := HB2.out.size
        have HI3 : Hid (FindInv T k sb g w.heap.size ob w2.heap.size w.heap.size w w3 0) := ⟨HE2.out.of (hb3.block _ HE2.out.lts) (hb3.block _ HE2.out.ltg) hb3.size, ⟨fun q => decide (q < k), fun _ => 0, M2, _, Part.start, HPO.out, HRO2.out.of_block (hb3.block _ hl2), hr3', HSM2.out.of_block (hb3.block _ HSM2.out.lt), HMI2.out, HIN.out⟩, HB2.out.trans (hb3.mono (by omega))⟩
        generalize hpb : w2.heap.size = pb at *
        have hpo : pb ≠ ob := by omega
        have hps : pb ≠ sb := by have := HE2.out.lts; omega
        have hpg : pb ≠ g := by omega
        have hpm : pb ≠ w.heap.size := by omega
        have hBp : w.heap.size ≤ pb := by omega
        clear hr3 hg3 hs3 hb3 hr3' HRO2 HE2 HSM2 HMI2 HIN HPO HB2 HFR2 HRO HFR HE1 HM1 HB1 HP1
        go_wp2_with fail
        go_loopw [28] (fun pv wr => ∃ p : Nat, p ≤ k ∧ pv = .int .i64 p ∧ FindInv T k sb g w.heap.size ob pb w.heap.size w wr p) (fun pv _ => k - (intOf pv).toNat)
        case atStart => exact ⟨0, Nat.zero_le _, rfl, HI3.out⟩
        case round =>
          obtain ⟨p, hp, rfl, hinv⟩ := hrel
          obtain ⟨henv, ⟨H, Z, M, kk, hpart, hpos, hro, hrz, hsm, hmi, hin⟩, hbel⟩ := hinv
          have HENV : Hid (SEnv wr sb g w.heap.size k T) := henv
          have HPART : Hid (Part True T k p H Z) := hpart
          have HRO : Hid (wr.rowIs ob 128 8 (fun q => .bool (H q))) := hro
          have HRZ : Hid (wr.rowIs pb 3 k (fun q => .int .i64 (Z q))) := hrz
          have HSM : Hid (SMap wr w.heap.size kk M) := hsm
          have HMI : Hid (MInv T k M) := hmi
          have HBL : Hid (Below w.heap.size w wr) := hbel
          by_cases hlt : p < k
          · have hne : ∃ q, H q = true := by
              refine Classical.byContradiction fun hno => ?_
              have h0 : ∀ m, cntS H m = 0 := by
                intro m
                induction m with
                | zero => rfl
                | succ m ih =>
                  simp only [cntS]
                  rw [ih, if_neg (fun h => hno ⟨m, h⟩)]
              have := hpart.cnt
              rw [h0] at this
              omega
            have h8H : In8 H := fun q hq => hpart.sub q (by omega)
            obtain ⟨x, hx⟩ : ∃ x, M H = some x := by
              rcases hin with h | h
              · obtain ⟨q, hq⟩ := hne
                rw [h q] at hq
                cases hq
              · exact Option.isSome_iff_exists.1 h
            obtain ⟨i, rfl, hlow, hnext⟩ : ∃ i : Nat, x = i ∧ Low T k H i ∧ ((∀ q, dropI H i q = false) ∨ (M (dropI H i)).isSome = true) := by
              rcases hmi H x h8H hx with ⟨_, h⟩ | h
              · exact absurd hpos h
              · exact h
            have hik := hlow.1
            have hrun := run_slook1 h8H hsm hx
            unfold setV at hrun
            have y1 := henv.s1
            have hls := henv.lts
            have HLOW : Hid (Low T k H i) := hlow
            have HNEXT : Hid ((∀ q, dropI H i q = false) ∨ (M (dropI H i)).isSome = true) := hnext
            have x0 : wr.cell? ⟨pb, i, none⟩ = some (.int .i64 (Z i)) := hrz.cell hik
            have z0 := hrz.frozen i
            have HP1 : Hid (wr.heap[ob]? = some (.cells #[.bool (H 0), .bool (H 1), .bool (H 2), .bool (H 3), .bool (H 4), .bool (H 5), .bool (H 6), .bool (H 7)] 128 (0, 0))) := row8 hro
            have HP2 : Hid ((wr.setCell ⟨pb, i, none⟩ (.int .i64 p)).heap[ob]? = some (.cells #[.bool (H 0), .bool (H 1), .bool (H 2), .bool (H 3), .bool (H 4), .bool (H 5), .bool (H 6), .bool (H 7)] 128 (0, 0))) := row8 (hro.setOther (by show ob ≠ pb; omega) _)
            clear henv hpart hro hrz hsm hmi hbel hpos hin hne hx hlow hnext
            go_wp2_with (first | (refine wpList_load_row rfl 128 (.tmp 4) rfl ob rfl 128 #[.bool (H 0), .bool (H 1), .bool (H 2), .bool (H 3), .bool (H 4), .bool (H 5), .bool (H 6), .bool (H 7)] (0, 0) _ HP1.out Tryz.underlying128 rfl (by kernel_rfl) ?_) | (refine wpList_load_row rfl 128 (.tmp 4) rfl ob rfl 128 #[.bool (H 0), .bool (H 1), .bool (H 2), .bool (H 3), .bool (H 4), .bool (H 5), .bool (H 6), .bool (H 7)] (0, 0) _ HP2.out Tryz.underlying128 rfl (by kernel_rfl) ?_))
            refine (without_any H i (wr.setCell ⟨pb, i, none⟩ (.int .i64 p)) (by omega)).mono ?_
            rintro e w4 ⟨rfl, hb4⟩
            have hs4 : wr.heap.size ≤ w4.heap.size := by have := hb4.size; simpa using this
            have hoth : ∀ q, q < wr.heap.size → q ≠ pb → w4.heap[q]? = wr.heap[q]? := fun q hq hne => (hb4.block q (by simpa using hq)).trans (Deep.blk_setCell_other _ _ _ _ hne)
            have HR2 : Hid (w4.heap[ob]? = some (.cells #[.bool (H 0), .bool (H 1), .bool (H 2), .bool (H 3), .bool (H 4), .bool (H 5), .bool (H 6), .bool (H 7)] 128 (0, 0))) := (hoth _ HRO.out.lt (by omega)).trans HP1.out
            have HINV : Hid (FindInv T k sb g w.heap.size ob pb w.heap.size w (w4.setRow ob #[.bool (dropI H i 0), .bool (dropI H i 1), .bool (dropI H i 2), .bool (dropI H i 3), .bool (dropI H i 4), .bool (dropI H i 5), .bool (dropI H i 6), .bool (dropI H i 7)]) (p + 1)) := by
              have h5 : ∀ q, q < wr.heap.size → q ≠ pb → q ≠ ob → (w4.setRow ob #[.bool (dropI H i 0), .bool (dropI H i 1), .bool (dropI H i 2), .bool (dropI H i 3), .bool (dropI H i 4), .bool (dropI H i 5), .bool (dropI H i 6), .bool (dropI H i 7)]).heap[q]? = wr.heap[q]? := fun q hq h1 h2 => (setRow_other _ _ _ _ h2).trans (hoth q hq h1)
              have hrz : (w4.setRow ob #[.bool (dropI H i 0), .bool (dropI H i 1), .bool (dropI H i 2), .bool (dropI H i 3), .bool (dropI H i 4), .bool (dropI H i 5), .bool (dropI H i 6), .bool (dropI H i 7)]).rowIs pb 3 k (fun q => .int .i64 (updZ Z i p q)) := by
                refine (row_set_int HRZ.out i (p : Int)).of_block ((setRow_other _ _ _ _ hpo).trans (hb4.block _ (by simpa using HRZ.out.lt)))
              refine ⟨HENV.out.of (h5 _ HENV.out.lts (Ne.symm hps) (Ne.symm hos)) (h5 _ HENV.out.ltg (Ne.symm hpg) (Ne.symm hog)) (by simpa using hs4), ⟨dropI H i, updZ Z i p, M, kk, HPART.out.next HLOW.out.1 HLOW.out.2.1 HLOW.out.2.2.1 (fun _ => HLOW.out), HLOW.out.2.2.2.1, row_of8 (setRow_heap _ _ _ _ _ _ HR2.out), hrz, HSM.out.of_block (h5 _ HSM.out.lt (Ne.symm hpm) (Ne.symm hmb)), HMI.out, HNEXT.out⟩, ?_⟩
              have hb5 := HBL.out.size
              have hbs : Below w.heap.size w (wr.setCell ⟨pb, i, none⟩ (.int .i64 p)) := HBL.out.setCell hBp _
              have hba : Below w.heap.size w w4 := hbs.trans (hb4.mono (by simpa using hb5))
              exact ⟨hba.os, hba.tape, hba.output, by simpa using hba.size, fun q hq => (setRow_other _ _ _ _ (by omega)).trans (hba.block q hq)⟩
            clear hb4 hs4 hoth x0 z0 y1 hrun HP1 HP2 HENV HPART HRO HRZ HSM HMI HBL HLOW HNEXT
            unfold setV
            go_wp2_with (refine wpList_store_row rfl 128 (.tmp 4) (.tmp 41) rfl ob #[.bool (dropI H i 0), .bool (dropI H i 1), .bool (dropI H i 2), .bool (dropI H i 3), .bool (dropI H i 4), .bool (dropI H i 5), .bool (dropI H i 6), .bool (dropI H i 7)] rfl rfl 128 #[.bool (H 0), .bool (H 1), .bool (H 2), .bool (H 3), .bool (H 4), .bool (H 5), .bool (H 6), .bool (H 7)] HR2.out (by kernel_rfl) rfl (all8 _ _ _ _ _ _ _ _) ?_)
            go_wp2
            go_roundw
            case rel => exact ⟨p + 1, by omega, by go_num, HINV.out⟩
            case measure => simp [intOf]; omega
          · obtain rfl : p = k := by omega
            have HD : Hid (Cad.PrioB Z p ∧ (∀ i, i < p → Has T p (abv Z p i) i) ∧ (True → ∀ i, i < p → Low T p (fun q => if q < p then decide (Z i ≤ Z q) else false) i)) := hpart.done
            clear henv hpart hro hrz hsm hmi hbel hpos hin
            go_wp2
            go_ret
            exact ⟨.inr ⟨pb, Z, rfl, hBp, HRZ.out, HD.out.1, HD.out.2.1, HD.out.2.2 trivial⟩, HBL.out⟩

end Go.Proofs.YtdabcflpcklfiaaGreat
