import Derived.Test.YtdabcflpcklfiaaGreatA52
/- The search: which sets are possible, and which task gets the lowest priority. -/
namespace Go.Proofs.YtdabcflpcklfiaaGreat
open Go.RowKit

/-- Where the search lies: its block, the system's, the map's. -/
structure SEnv (w : World) (sb g mb n : Nat) (T : TD) : Prop where
  s0 : w.cell? ⟨sb, 0, none⟩ = some (.slice (some ⟨g, 0, none⟩) n n)
  s1 : w.cell? ⟨sb, 1, none⟩ = some (.map (some mb))
  sys : SysAt w g n T
  lts : sb < w.heap.size
  ltg : g < w.heap.size
  nes : sb ≠ mb
  neg : g ≠ mb

theorem SEnv.fr {w w' : World} {sb g mb n : Nat} {T : TD} (h : SEnv w sb g mb n T) (hf : Fr (fun q => q = mb) w w') : SEnv w' sb g mb n T := by
  refine ⟨(hf.cell h.lts h.nes).trans h.s0, (hf.cell h.lts h.nes).trans h.s1, fun i hi => ?_, by have := h.lts; have := hf.size; omega, by have := h.ltg; have := hf.size; omega, h.nes, h.neg⟩
  have c := fun q => hf.cell (b := g) (i := q) h.ltg h.neg
  rw [c, c, c, c, c, c, c, c, c, c, c, c]
  exact h.sys i hi

/-- What the map remembers is so. -/
def MInv (T : TD) (n : Nat) (M : (Nat → Bool) → Option Int) : Prop := ∀ H x, In8 H → M H = some x →
  (x = -1 ∧ ¬ Poss T n H) ∨ ∃ i : Nat, x = i ∧ Low T n H i ∧ ((∀ q, dropI H i q = false) ∨ (M (dropI H i)).isSome = true)

def Ext (M M' : (Nat → Bool) → Option Int) : Prop := ∀ H x, In8 H → M H = some x → M' H = some x

theorem Ext.refl (M : (Nat → Bool) → Option Int) : Ext M M := fun _ _ _ h => h
theorem Ext.trans {M M' M'' : (Nat → Bool) → Option Int} (h : Ext M M') (h' : Ext M' M'') : Ext M M'' := fun H x h8 e => h' H x h8 (h H x h8 e)
theorem sput_some {M : (Nat → Bool) → Option Int} {H H' : Nat → Bool} {x : Int} (h : (M H').isSome = true) : (sput M H x H').isSome = true := by
  unfold sput
  split
  · rfl
  · exact h

/-- What a choice must be. -/
def Chosen (T : TD) (n : Nat) (M : (Nat → Bool) → Option Int) (H : Nat → Bool) (x : Int) : Prop :=
  (x = -1 ∧ ¬ Poss T n H) ∨ ∃ i : Nat, x = i ∧ Low T n H i ∧ ((∀ q, dropI H i q = false) ∨ (M (dropI H i)).isSome = true)

theorem MInv.put {T : TD} {n : Nat} {M : (Nat → Bool) → Option Int} {H : Nat → Bool} {x : Int} (h : MInv T n M) (h8 : In8 H) (hc : Chosen T n M H x) : MInv T n (sput M H x) := by
  intro H' y h8' hy
  by_cases e : H' = H
  · subst e
    rw [sput_self] at hy
    cases hy
    rcases hc with hc | ⟨i, h1, h2, h3⟩
    · exact .inl hc
    · exact .inr ⟨i, h1, h2, h3.imp id sput_some⟩
  · rw [sput_ne h8 h8' e] at hy
    rcases h H' y h8' hy with hc | ⟨i, h1, h2, h3⟩
    · exact .inl hc
    · exact .inr ⟨i, h1, h2, h3.imp id sput_some⟩

theorem Ext.put {M : (Nat → Bool) → Option Int} {H : Nat → Bool} {x : Int} (h8 : In8 H) (h : M H = none) {M' : (Nat → Bool) → Option Int} (he : Ext M M') : Ext M (sput M' H x) := by
  intro H' y h8' hy
  by_cases e : H' = H
  · subst e; rw [h] at hy; cases hy
  · rw [sput_ne h8 h8' e]; exact he H' y h8' hy

theorem chosen_iff {T : TD} {n : Nat} {M : (Nat → Bool) → Option Int} {H : Nat → Bool} {x : Int} (h : Chosen T n M H x) : (x != -1) = true ↔ Poss T n H := by
  rw [bne_iff_ne]
  rcases h with ⟨rfl, h⟩ | ⟨i, rfl, h, _⟩
  · exact ⟨fun g => absurd rfl g, fun g => absurd g h⟩
  · exact ⟨fun _ => h.poss, fun _ => by omega⟩

/-- What possible answers for sets of at most c tasks. -/
def PossC (T : TD) (n sb g mb c : Nat) : Prop := ∀ (H : Nat → Bool) (M : (Nat → Bool) → Option Int) (k : Nat) (w : World), cntS H n ≤ c → (∀ q, n ≤ q → H q = false) → SEnv w sb g mb n T → SMap w mb k M → MInv T n M → k + 9 ^ c ≤ 1000000000 →
  Calls Tryz.prog 98 #[.pointer (some ⟨sb, 0, none⟩), setV H] w fun e w' => ∃ (t : Bool) (M' : (Nat → Bool) → Option Int), e = .returned (.bool t) ∧ (t = true ↔ Poss T n H) ∧ SMap w' mb (k + 9 ^ c) M' ∧ MInv T n M' ∧ Ext M M' ∧ (t = true → (∀ q, H q = false) ∨ (M' H).isSome = true) ∧ Fr (fun q => q = mb) w w'

/-- What choose answers for sets of c + 1 tasks. -/
def ChooseC (T : TD) (n sb g mb c : Nat) : Prop := ∀ (H : Nat → Bool) (M : (Nat → Bool) → Option Int) (k : Nat) (w : World), cntS H n = c + 1 → (∀ q, n ≤ q → H q = false) → SEnv w sb g mb n T → SMap w mb k M → MInv T n M → k + 8 * 9 ^ c ≤ 1000000000 →
  Calls Tryz.prog 127 #[.pointer (some ⟨sb, 0, none⟩), setV H] w fun e w' => ∃ (x : Int) (M' : (Nat → Bool) → Option Int), e = .returned (.int .i64 x) ∧ -1 ≤ x ∧ x < n ∧ Chosen T n M' H x ∧ SMap w' mb (k + 8 * 9 ^ c) M' ∧ MInv T n M' ∧ Ext M M' ∧ Fr (fun q => q = mb) w w'

/-- How far the choice has come: none of those from t on will do. -/
def NoneFrom (T : TD) (n t : Nat) (H : Nat → Bool) : Prop := ∀ j, t ≤ j → j < n → H j = true → Has T n (dropI H j) j → ¬ Poss T n (dropI H j)

theorem NoneFrom.next {T : TD} {n t : Nat} {H : Nat → Bool} (h : NoneFrom T n (t + 1) H) (ht : H t = true → Has T n (dropI H t) t → ¬ Poss T n (dropI H t)) : NoneFrom T n t H := fun j hj hn h1 h2 => by
  by_cases e : j = t
  · subst e; exact ht h1 h2
  · exact h j (by omega) hn h1 h2

theorem none_poss {T : TD} {n c : Nat} {H : Nat → Bool} (hc : cntS H n = c + 1) (h : NoneFrom T n 0 H) : ¬ Poss T n H := fun hp => by
  rcases poss_one hp with g | ⟨i, h1, h2, h3, h4⟩
  · have : ∀ m, m ≤ n → cntS H m = 0 := by
      intro m
      induction m with
      | zero => intro _; rfl
      | succ m ih =>
        intro hm
        simp only [cntS]
        rw [ih (by omega), if_neg (by rw [g m (by omega)]; simp)]
    have := this n (Nat.le_refl _)
    omega
  · exact h i (Nat.zero_le _) h1 h2 h3 h4

theorem low_none {T : TD} {n t : Nat} {H : Nat → Bool} (h : NoneFrom T n (t + 1) H) (ht : t < n) (h1 : H t = true) (h2 : Has T n (dropI H t) t) (h3 : Poss T n (dropI H t)) : Low T n H t :=
  ⟨ht, h1, h2, h3, fun j a b d e => h j a b d e⟩

theorem row_of8 {w : World} {b t : Nat} {f : Nat → Value} (h : w.heap[b]? = some (.cells #[f 0, f 1, f 2, f 3, f 4, f 5, f 6, f 7] t (0, 0))) : w.rowIs b t 8 f := by
  refine ⟨_, h, rfl, fun i hi => ?_⟩
  match i, hi with
  | 0, _ => rfl
  | 1, _ => rfl
  | 2, _ => rfl
  | 3, _ => rfl
  | 4, _ => rfl
  | 5, _ => rfl
  | 6, _ => rfl
  | 7, _ => rfl

set_option maxRecDepth 100000 in
set_option maxHeartbeats 2000000 in
theorem choose_any {T : TD} {n sb g mb c : Nat} (hG : Good T n) (ih : PossC T n sb g mb c) : ChooseC T n sb g mb c := by
  intro H M k w hcnt hsub henv hmap hinv hk
  have h8 := hG.eight
  have HG : Hid (Good T n) := hG
  have IH : Hid (PossC T n sb g mb c) := ih
  have HENV : Hid (SEnv w sb g mb n T) := henv
  have HMAP : Hid (SMap w mb k M) := hmap
  have HINV : Hid (MInv T n M) := hinv
  have HSUB : Hid (∀ q, n ≤ q → H q = false) := hsub
  have HCNT : Hid (cntS H n = c + 1) := hcnt
  have y0 := henv.s0
  have hlt := henv.lts
  clear hG ih henv hmap hinv hsub hcnt
  have HO0 : Hid ((w.alloc (.cells #[.bool (H 0), .bool (H 1), .bool (H 2), .bool (H 3), .bool (H 4), .bool (H 5), .bool (H 6), .bool (H 7)] 128)).rowIs w.heap.size 128 8 (fun q => .bool (H q))) := set_row w H
  have HF0 : Hid (Fr (fun q => q = mb) w (w.alloc (.cells #[.bool (H 0), .bool (H 1), .bool (H 2), .bool (H 3), .bool (H 4), .bool (H 5), .bool (H 6), .bool (H 7)] 128))) := (Fr.refl _ _).alloc _
  have hmw : mb < w.heap.size := HMAP.out.lt
  have HM0 : Hid (SMap (w.alloc (.cells #[.bool (H 0), .bool (H 1), .bool (H 2), .bool (H 3), .bool (H 4), .bool (H 5), .bool (H 6), .bool (H 7)] 128)) mb (k + 0 * 9 ^ c) M) := by
    unfold Hid
    rw [Nat.zero_mul]
    exact HMAP.out.of_block (Deep.blk_alloc_lt _ _ _ hmw)
  unfold setV
  go_enter Tryz.func127, Tryz.ntmps127
  go_wp2
  generalize (w.alloc (.cells #[.bool (H 0), .bool (H 1), .bool (H 2), .bool (H 3), .bool (H 4), .bool (H 5), .bool (H 6), .bool (H 7)] 128)) = W at *
  clear y0
  go_loopw [5] (fun tv wr => ∃ (t : Nat) (M' : (Nat → Bool) → Option Int), t ≤ n ∧ tv = .int .i64 ((t : Int) - 1) ∧ NoneFrom T n t H ∧ wr.rowIs w.heap.size 128 8 (fun q => .bool (H q)) ∧ SMap wr mb (k + (n - t) * 9 ^ c) M' ∧ MInv T n M' ∧ Ext M M' ∧ Fr (fun q => q = mb) w wr) (fun tv _ => (intOf tv + 1).toNat)
  case atStart => exact ⟨n, M, Nat.le_refl _, rfl, fun j h1 h2 => by omega, HO0.out, by rw [Nat.sub_self]; exact HM0.out, HINV.out, Ext.refl _, HF0.out⟩
  case round =>
    obtain ⟨t1, M1, ht, rfl, hnf, hro, hsm, hmi, hext, hfr⟩ := hrel
    have HNF : Hid (NoneFrom T n t1 H) := hnf
    have HRO : Hid (wr.rowIs w.heap.size 128 8 (fun q => .bool (H q))) := hro
    have HSM : Hid (SMap wr mb (k + (n - t1) * 9 ^ c) M1) := hsm
    have HMI : Hid (MInv T n M1) := hmi
    have HEX : Hid (Ext M M1) := hext
    have HFR : Hid (Fr (fun q => q = mb) w wr) := hfr
    clear hnf hro hsm hmi hext hfr HO0 HF0 HM0
    by_cases hz : t1 = 0
    · subst hz
      have hno : Hid (¬ Poss T n H) := none_poss HCNT.out HNF.out
      go_wp2
      go_ret
      exact ⟨-1, M1, rfl, by omega, by omega, .inl ⟨rfl, hno.out⟩, HSM.out.mono (by have := Nat.mul_le_mul_right (9 ^ c) (show n - 0 ≤ 8 by omega); omega), HMI.out, HEX.out, HFR.out⟩
    · obtain ⟨t, rfl⟩ : ∃ t, t1 = t + 1 := ⟨t1 - 1, by omega⟩
      have het : ((t + 1 : Nat) : Int) - 1 = t := by omega
      rw [het]
      have hge : decide (0 ≤ (t : Int)) = true := by simp
      have htn : t < n := by omega
      have HP1 : Hid (wr.heap[w.heap.size]? = some (.cells #[.bool (H 0), .bool (H 1), .bool (H 2), .bool (H 3), .bool (H 4), .bool (H 5), .bool (H 6), .bool (H 7)] 128 (0, 0))) := row8 HRO.out
      go_wp2_with (refine wpList_load_row rfl 128 (.tmp 3) rfl w.heap.size rfl 128 #[.bool (H 0), .bool (H 1), .bool (H 2), .bool (H 3), .bool (H 4), .bool (H 5), .bool (H 6), .bool (H 7)] (0, 0) _ HP1.out Tryz.underlying128 rfl (by kernel_rfl) ?_)
      refine (without_any H t wr (by omega)).mono ?_
      rintro e w1 ⟨rfl, hb1⟩
      have hs1 := hb1.size
      have hsr := HFR.out.size
      have hol := HRO.out.lt
      have HRO1 : Hid (w1.rowIs w.heap.size 128 8 (fun q => .bool (H q))) := HRO.out.of_block (hb1.block _ hol)
      have HSM1 : Hid (SMap w1 mb (k + (n - (t + 1)) * 9 ^ c) M1) := HSM.out.of_block (hb1.block _ HSM.out.lt)
      have HFR1 : Hid (Fr (fun q => q = mb) w w1) := HFR.out.then (Fr.of_below _ hb1)
      clear hb1 HRO HSM HFR HP1
      unfold setV
      have HR2 : Hid ((w1.alloc (.cells #[.bool false, .bool false, .bool false, .bool false, .bool false, .bool false, .bool false, .bool false] 128)).heap[w1.heap.size]? = some (.cells #[.bool false, .bool false, .bool false, .bool false, .bool false, .bool false, .bool false, .bool false] 128 (0, 0))) := row8 (false8 w1 128 _ rfl)
      go_wp2_with (refine wpList_store_row rfl 128 (.tmp 6) (.tmp 19) rfl w1.heap.size #[.bool (dropI H t 0), .bool (dropI H t 1), .bool (dropI H t 2), .bool (dropI H t 3), .bool (dropI H t 4), .bool (dropI H t 5), .bool (dropI H t 6), .bool (dropI H t 7)] rfl rfl 128 #[.bool false, .bool false, .bool false, .bool false, .bool false, .bool false, .bool false, .bool false] HR2.out (by kernel_rfl) rfl (all8 _ _ _ _ _ _ _ _) ?_)
      have HNEB : Hid (w1.heap.size ≠ w.heap.size) := by unfold Hid; omega
      have HRO4 : Hid (((w1.alloc (.cells #[.bool false, .bool false, .bool false, .bool false, .bool false, .bool false, .bool false, .bool false] 128)).setRow w1.heap.size #[.bool (dropI H t 0), .bool (dropI H t 1), .bool (dropI H t 2), .bool (dropI H t 3), .bool (dropI H t 4), .bool (dropI H t 5), .bool (dropI H t 6), .bool (dropI H t 7)]).rowIs w.heap.size 128 8 (fun q => .bool (H q))) := by
        unfold Hid
        refine (HRO1.out.alloc (.cells #[.bool false, .bool false, .bool false, .bool false, .bool false, .bool false, .bool false, .bool false] 128)).of_block (setRow_other _ _ _ _ ?_)
        omega
      have HRH4 : Hid (((w1.alloc (.cells #[.bool false, .bool false, .bool false, .bool false, .bool false, .bool false, .bool false, .bool false] 128)).setRow w1.heap.size #[.bool (dropI H t 0), .bool (dropI H t 1), .bool (dropI H t 2), .bool (dropI H t 3), .bool (dropI H t 4), .bool (dropI H t 5), .bool (dropI H t 6), .bool (dropI H t 7)]).rowIs w1.heap.size 128 8 (fun q => .bool (dropI H t q))) := row_of8 (setRow_heap _ _ _ _ _ _ HR2.out)
      have HFR4 : Hid (Fr (fun q => q = mb) w ((w1.alloc (.cells #[.bool false, .bool false, .bool false, .bool false, .bool false, .bool false, .bool false, .bool false] 128)).setRow w1.heap.size #[.bool (dropI H t 0), .bool (dropI H t 1), .bool (dropI H t 2), .bool (dropI H t 3), .bool (dropI H t 4), .bool (dropI H t 5), .bool (dropI H t 6), .bool (dropI H t 7)])) := by
        have h := HFR1.out.alloc (.cells #[.bool false, .bool false, .bool false, .bool false, .bool false, .bool false, .bool false, .bool false] 128)
        exact ⟨h.os, h.tape, h.output, by simpa using h.size, fun q hq hn => (setRow_other _ _ _ _ (by omega)).trans (h.block q hq hn)⟩
      have HSM4 : Hid (SMap ((w1.alloc (.cells #[.bool false, .bool false, .bool false, .bool false, .bool false, .bool false, .bool false, .bool false] 128)).setRow w1.heap.size #[.bool (dropI H t 0), .bool (dropI H t 1), .bool (dropI H t 2), .bool (dropI H t 3), .bool (dropI H t 4), .bool (dropI H t 5), .bool (dropI H t 6), .bool (dropI H t 7)]) mb (k + (n - (t + 1)) * 9 ^ c) M1) := HSM1.out.of_block ((setRow_other _ _ _ _ (by have := HSM1.out.lt; omega)).trans (Deep.blk_alloc_lt _ _ _ HSM1.out.lt))
      generalize ((w1.alloc (.cells #[.bool false, .bool false, .bool false, .bool false, .bool false, .bool false, .bool false, .bool false] 128)).setRow w1.heap.size #[.bool (dropI H t 0), .bool (dropI H t 1), .bool (dropI H t 2), .bool (dropI H t 3), .bool (dropI H t 4), .bool (dropI H t 5), .bool (dropI H t 6), .bool (dropI H t 7)]) = W4 at *
      clear HR2 HRO1 HSM1 HFR1
      have hlo := HRO4.out.lt
      have hlh := HRH4.out.lt
      have o0 : W4.cell? ⟨w.heap.size, t, none⟩ = some (.bool (H t)) := HRO4.out.cell (by omega)
      have hmul : Hid (k + (n - (t + 1)) * 9 ^ c + 9 ^ c = k + (n - t) * 9 ^ c) := by
        unfold Hid
        rw [show n - t = (n - (t + 1)) + 1 by omega, Nat.succ_mul, Nat.add_assoc]
      have hmb : Hid (k + (n - t) * 9 ^ c ≤ k + 8 * 9 ^ c) := by
        unfold Hid
        have := Nat.mul_le_mul_right (9 ^ c) (show n - t ≤ 8 by omega)
        omega
      by_cases hHt : H t = true
      · rw [hHt] at o0
        have HHT : Hid (H t = true) := hHt
        have hcs : Hid (cntS (dropI H t) n ≤ c) := by
          have := cntS_drop hHt n htn
          have := HCNT.out
          unfold Hid
          omega
        have hsubd : Hid (∀ q, n ≤ q → dropI H t q = false) := fun q hq => by
          unfold dropI
          split
          · rfl
          · exact HSUB.out q hq
        have HE4 : Hid (SEnv W4 sb g mb n T) := HENV.out.fr HFR4.out
        have y0 := HE4.out.s0
        have hls := HE4.out.lts
        have e0 := HRH4.out.cell (i := 0) (by omega)
        have e1 := HRH4.out.cell (i := 1) (by omega)
        have e2 := HRH4.out.cell (i := 2) (by omega)
        have e3 := HRH4.out.cell (i := 3) (by omega)
        have e4 := HRH4.out.cell (i := 4) (by omega)
        have e5 := HRH4.out.cell (i := 5) (by omega)
        have e6 := HRH4.out.cell (i := 6) (by omega)
        have e7 := HRH4.out.cell (i := 7) (by omega)
        have HBC : Hid (Calls Tryz.prog 61 #[.slice (some ⟨g, 0, none⟩) n n, .int .i64 t, .agg #[.bool (dropI H t 0), .bool (dropI H t 1), .bool (dropI H t 2), .bool (dropI H t 3), .bool (dropI H t 4), .bool (dropI H t 5), .bool (dropI H t 6), .bool (dropI H t 7)]] W4.drew fun e w' => ∃ r, e = .returned (.int .i64 r) ∧ SetB T n (dropI H t) t r ∧ Below W4.heap.size W4 w') := by
          refine (bound_any g n n t T (dropI H t) W4.drew HG.out htn HE4.out.ltg HE4.out.sys).mono ?_
          rintro e w' ⟨s, r, rfl, h1, h2, h3⟩
          exact ⟨r, rfl, ⟨s, h1, h2⟩, ((Below.refl _ _).drew : Below W4.heap.size W4 W4.drew).trans h3⟩
        have SSK : Hid (∀ w' : World, w'.rowIs w.heap.size 128 8 (fun q => .bool (H q)) → w'.rowIs w1.heap.size 128 8 (fun q => .bool (dropI H t q)) → Fr (fun q => q = mb) w w' → (w'.cell? ⟨w.heap.size, t, none⟩ = some (.bool true) ∧ w'.cell? ⟨sb, 0, none⟩ = some (.slice (some ⟨g, 0, none⟩) n n) ∧ w'.cell? ⟨w1.heap.size, 0, none⟩ = some (.bool (dropI H t 0)) ∧ w'.cell? ⟨w1.heap.size, 1, none⟩ = some (.bool (dropI H t 1)) ∧ w'.cell? ⟨w1.heap.size, 2, none⟩ = some (.bool (dropI H t 2)) ∧ w'.cell? ⟨w1.heap.size, 3, none⟩ = some (.bool (dropI H t 3)) ∧ w'.cell? ⟨w1.heap.size, 4, none⟩ = some (.bool (dropI H t 4)) ∧ w'.cell? ⟨w1.heap.size, 5, none⟩ = some (.bool (dropI H t 5)) ∧ w'.cell? ⟨w1.heap.size, 6, none⟩ = some (.bool (dropI H t 6)) ∧ w'.cell? ⟨w1.heap.size, 7, none⟩ = some (.bool (dropI H t 7)))) := fun w' h1 h2 h3 =>
          ⟨by rw [← HHT.out]; exact h1.cell (by omega), (HENV.out.fr h3).s0, h2.cell (by omega), h2.cell (by omega), h2.cell (by omega), h2.cell (by omega), h2.cell (by omega), h2.cell (by omega), h2.cell (by omega), h2.cell (by omega)⟩
        by_cases hhas : Has T n (dropI H t) t
        · by_cases hpos : Poss T n (dropI H t)
          · have HB2 : Hid (Calls Tryz.prog 61 #[.slice (some ⟨g, 0, none⟩) n n, .int .i64 t, .agg #[.bool (dropI H t 0), .bool (dropI H t 1), .bool (dropI H t 2), .bool (dropI H t 3), .bool (dropI H t 4), .bool (dropI H t 5), .bool (dropI H t 6), .bool (dropI H t 7)]] W4.drew fun e w' => ∃ r, e = .returned (.int .i64 r) ∧ decide (0 < r) = true ∧ (w'.cell? ⟨w.heap.size, t, none⟩ = some (.bool true) ∧ w'.cell? ⟨sb, 0, none⟩ = some (.slice (some ⟨g, 0, none⟩) n n) ∧ w'.cell? ⟨w1.heap.size, 0, none⟩ = some (.bool (dropI H t 0)) ∧ w'.cell? ⟨w1.heap.size, 1, none⟩ = some (.bool (dropI H t 1)) ∧ w'.cell? ⟨w1.heap.size, 2, none⟩ = some (.bool (dropI H t 2)) ∧ w'.cell? ⟨w1.heap.size, 3, none⟩ = some (.bool (dropI H t 3)) ∧ w'.cell? ⟨w1.heap.size, 4, none⟩ = some (.bool (dropI H t 4)) ∧ w'.cell? ⟨w1.heap.size, 5, none⟩ = some (.bool (dropI H t 5)) ∧ w'.cell? ⟨w1.heap.size, 6, none⟩ = some (.bool (dropI H t 6)) ∧ w'.cell? ⟨w1.heap.size, 7, none⟩ = some (.bool (dropI H t 7))) ∧ Calls Tryz.prog 98 #[.pointer (some ⟨sb, 0, none⟩), .agg #[.bool (dropI H t 0), .bool (dropI H t 1), .bool (dropI H t 2), .bool (dropI H t 3), .bool (dropI H t 4), .bool (dropI H t 5), .bool (dropI H t 6), .bool (dropI H t 7)]] w' fun e w'' => e = .returned (.bool true) ∧ ∃ M2 : (Nat → Bool) → Option Int, SMap w'' mb (k + (n - t) * 9 ^ c) M2 ∧ MInv T n M2 ∧ Ext M M2 ∧ (true = true → (∀ q, dropI H t q = false) ∨ (M2 (dropI H t)).isSome = true) ∧ w''.rowIs w.heap.size 128 8 (fun q => .bool (H q)) ∧ Fr (fun q => q = mb) w w'' ∧ (w''.cell? ⟨w.heap.size, t, none⟩ = some (.bool true) ∧ w''.cell? ⟨sb, 0, none⟩ = some (.slice (some ⟨g, 0, none⟩) n n) ∧ w''.cell? ⟨w1.heap.size, 0, none⟩ = some (.bool (dropI H t 0)) ∧ w''.cell? ⟨w1.heap.size, 1, none⟩ = some (.bool (dropI H t 1)) ∧ w''.cell? ⟨w1.heap.size, 2, none⟩ = some (.bool (dropI H t 2)) ∧ w''.cell? ⟨w1.heap.size, 3, none⟩ = some (.bool (dropI H t 3)) ∧ w''.cell? ⟨w1.heap.size, 4, none⟩ = some (.bool (dropI H t 4)) ∧ w''.cell? ⟨w1.heap.size, 5, none⟩ = some (.bool (dropI H t 5)) ∧ w''.cell? ⟨w1.heap.size, 6, none⟩ = some (.bool (dropI H t 6)) ∧ w''.cell? ⟨w1.heap.size, 7, none⟩ = some (.bool (dropI H t 7)))) := by
              refine (HBC.out).mono ?_
              rintro e w' ⟨r, rfl, hset, hb⟩
              have hd : decide (0 < r) = true := by simpa using (has_iff hset).1 hhas
              have hrow := HRH4.out.of_block (hb.block _ hlh)
              have hrow2 := HRO4.out.of_block (hb.block _ hlo)
              have hfr : Fr (fun q => q = mb) w w' := HFR4.out.then (Fr.of_below _ hb)
              refine ⟨r, rfl, hd, SSK.out w' hrow2 hrow hfr, ?_⟩
              refine (IH.out (dropI H t) M1 (k + (n - (t + 1)) * 9 ^ c) w' hcs.out hsubd.out (HENV.out.fr hfr) (HSM4.out.of_block (hb.block _ HSM4.out.lt)) HMI.out (by have := hmul.out; have := hmb.out; omega)).mono ?_
              rintro e w'' ⟨tt, M2, rfl, h1, h2, h3, h4, h5, h6⟩
              obtain rfl : tt = true := h1.2 hpos
              rw [hmul.out] at h2
              have hr1 := h6.row hrow2 (by have := HMAP.out.lt; omega)
              have hr2 := h6.row hrow (by have := HMAP.out.lt; omega)
              exact ⟨rfl, M2, h2, h3, HEX.out.trans h4, h5, hr1, hfr.then h6, SSK.out w'' hr1 hr2 (hfr.then h6)⟩
            have HLOW : Hid (Low T n H t) := low_none HNF.out htn HHT.out hhas hpos
            clear HBC hhas hpos SSK
            go_region_with (first | (go_at_call 61; refine (HB2.out).mono ?_; rintro e w5 ⟨r, rfl, hd, ⟨_, _, a0, a1, a2, a3, a4, a5, a6, a7⟩, hc65⟩) | (go_at_call 98; refine hc65.mono ?_; rintro e w6 ⟨rfl, M2, q1, q2, q3, q4, q5, q6, _⟩))
            all_goals
              have HQ1 : Hid (SMap w6 mb (k + (n - t) * 9 ^ c) M2) := q1
              have HQ2 : Hid (MInv T n M2) := q2
              have HQ3 : Hid (Ext M M2) := q3
              have HQ4 : Hid ((∀ q, dropI H t q = false) ∨ (M2 (dropI H t)).isSome = true) := q4 trivial
              have HQ6 : Hid (Fr (fun q => q = mb) w w6) := q6
              clear q1 q2 q3 q4 q5 q6 hc65 HB2 a0 a1 a2 a3 a4 a5 a6 a7 e0 e1 e2 e3 e4 e5 e6 e7 o0 y0
              go_wp2
              go_ret
              exact ⟨t, M2, rfl, by omega, by omega, .inr ⟨t, rfl, HLOW.out, HQ4.out⟩, HQ1.out.mono hmb.out, HQ2.out, HQ3.out, HQ6.out⟩
          · have HB2 : Hid (Calls Tryz.prog 61 #[.slice (some ⟨g, 0, none⟩) n n, .int .i64 t, .agg #[.bool (dropI H t 0), .bool (dropI H t 1), .bool (dropI H t 2), .bool (dropI H t 3), .bool (dropI H t 4), .bool (dropI H t 5), .bool (dropI H t 6), .bool (dropI H t 7)]] W4.drew fun e w' => ∃ r, e = .returned (.int .i64 r) ∧ decide (0 < r) = true ∧ (w'.cell? ⟨w.heap.size, t, none⟩ = some (.bool true) ∧ w'.cell? ⟨sb, 0, none⟩ = some (.slice (some ⟨g, 0, none⟩) n n) ∧ w'.cell? ⟨w1.heap.size, 0, none⟩ = some (.bool (dropI H t 0)) ∧ w'.cell? ⟨w1.heap.size, 1, none⟩ = some (.bool (dropI H t 1)) ∧ w'.cell? ⟨w1.heap.size, 2, none⟩ = some (.bool (dropI H t 2)) ∧ w'.cell? ⟨w1.heap.size, 3, none⟩ = some (.bool (dropI H t 3)) ∧ w'.cell? ⟨w1.heap.size, 4, none⟩ = some (.bool (dropI H t 4)) ∧ w'.cell? ⟨w1.heap.size, 5, none⟩ = some (.bool (dropI H t 5)) ∧ w'.cell? ⟨w1.heap.size, 6, none⟩ = some (.bool (dropI H t 6)) ∧ w'.cell? ⟨w1.heap.size, 7, none⟩ = some (.bool (dropI H t 7))) ∧ Calls Tryz.prog 98 #[.pointer (some ⟨sb, 0, none⟩), .agg #[.bool (dropI H t 0), .bool (dropI H t 1), .bool (dropI H t 2), .bool (dropI H t 3), .bool (dropI H t 4), .bool (dropI H t 5), .bool (dropI H t 6), .bool (dropI H t 7)]] w' fun e w'' => e = .returned (.bool false) ∧ ∃ M2 : (Nat → Bool) → Option Int, SMap w'' mb (k + (n - t) * 9 ^ c) M2 ∧ MInv T n M2 ∧ Ext M M2 ∧ (false = true → (∀ q, dropI H t q = false) ∨ (M2 (dropI H t)).isSome = true) ∧ w''.rowIs w.heap.size 128 8 (fun q => .bool (H q)) ∧ Fr (fun q => q = mb) w w'' ∧ (w''.cell? ⟨w.heap.size, t, none⟩ = some (.bool true) ∧ w''.cell? ⟨sb, 0, none⟩ = some (.slice (some ⟨g, 0, none⟩) n n) ∧ w''.cell? ⟨w1.heap.size, 0, none⟩ = some (.bool (dropI H t 0)) ∧ w''.cell? ⟨w1.heap.size, 1, none⟩ = some (.bool (dropI H t 1)) ∧ w''.cell? ⟨w1.heap.size, 2, none⟩ = some (.bool (dropI H t 2)) ∧ w''.cell? ⟨w1.heap.size, 3, none⟩ = some (.bool (dropI H t 3)) ∧ w''.cell? ⟨w1.heap.size, 4, none⟩ = some (.bool (dropI H t 4)) ∧ w''.cell? ⟨w1.heap.size, 5, none⟩ = some (.bool (dropI H t 5)) ∧ w''.cell? ⟨w1.heap.size, 6, none⟩ = some (.bool (dropI H t 6)) ∧ w''.cell? ⟨w1.heap.size, 7, none⟩ = some (.bool (dropI H t 7)))) := by
              refine (HBC.out).mono ?_
              rintro e w' ⟨r, rfl, hset, hb⟩
              have hd : decide (0 < r) = true := by simpa using (has_iff hset).1 hhas
              have hrow := HRH4.out.of_block (hb.block _ hlh)
              have hrow2 := HRO4.out.of_block (hb.block _ hlo)
              have hfr : Fr (fun q => q = mb) w w' := HFR4.out.then (Fr.of_below _ hb)
              refine ⟨r, rfl, hd, SSK.out w' hrow2 hrow hfr, ?_⟩
              refine (IH.out (dropI H t) M1 (k + (n - (t + 1)) * 9 ^ c) w' hcs.out hsubd.out (HENV.out.fr hfr) (HSM4.out.of_block (hb.block _ HSM4.out.lt)) HMI.out (by have := hmul.out; have := hmb.out; omega)).mono ?_
              rintro e w'' ⟨tt, M2, rfl, h1, h2, h3, h4, h5, h6⟩
              obtain rfl : tt = false := by
                cases tt with
                | true => exact absurd (h1.1 rfl) hpos
                | false => rfl
              rw [hmul.out] at h2
              have hr1 := h6.row hrow2 (by have := HMAP.out.lt; omega)
              have hr2 := h6.row hrow (by have := HMAP.out.lt; omega)
              exact ⟨rfl, M2, h2, h3, HEX.out.trans h4, h5, hr1, hfr.then h6, SSK.out w'' hr1 hr2 (hfr.then h6)⟩
            have HNF2 : Hid (NoneFrom T n t H) := HNF.out.next (fun _ _ => hpos)
            clear HBC hhas hpos SSK
            go_region_with (first | (go_at_call 61; refine (HB2.out).mono ?_; rintro e w5 ⟨r, rfl, hd, ⟨_, _, a0, a1, a2, a3, a4, a5, a6, a7⟩, hc65⟩) | (go_at_call 98; refine hc65.mono ?_; rintro e w6 ⟨rfl, M2, q1, q2, q3, q4, q5, q6, _⟩))
            all_goals
              have HQ1 : Hid (SMap w6 mb (k + (n - t) * 9 ^ c) M2) := q1
              have HQ2 : Hid (MInv T n M2) := q2
              have HQ3 : Hid (Ext M M2) := q3
              have HQ5 : Hid (w6.rowIs w.heap.size 128 8 (fun q => .bool (H q))) := q5
              have HQ6 : Hid (Fr (fun q => q = mb) w w6) := q6
              clear q1 q2 q3 q4 q5 q6 hc65 HB2 a0 a1 a2 a3 a4 a5 a6 a7 e0 e1 e2 e3 e4 e5 e6 e7 o0 y0
              go_wp2
              go_roundw
              case rel => exact ⟨t, M2, by omega, rfl, HNF2.out, HQ5.out, HQ1.out, HQ2.out, HQ3.out, HQ6.out⟩
              case measure => first | (simp [intOf]; done) | (simp [intOf]; omega)
        · have HB2 : Hid (Calls Tryz.prog 61 #[.slice (some ⟨g, 0, none⟩) n n, .int .i64 t, .agg #[.bool (dropI H t 0), .bool (dropI H t 1), .bool (dropI H t 2), .bool (dropI H t 3), .bool (dropI H t 4), .bool (dropI H t 5), .bool (dropI H t 6), .bool (dropI H t 7)]] W4.drew fun e w' => e = .returned (.int .i64 0) ∧ (w'.cell? ⟨w.heap.size, t, none⟩ = some (.bool true) ∧ w'.cell? ⟨sb, 0, none⟩ = some (.slice (some ⟨g, 0, none⟩) n n) ∧ w'.cell? ⟨w1.heap.size, 0, none⟩ = some (.bool (dropI H t 0)) ∧ w'.cell? ⟨w1.heap.size, 1, none⟩ = some (.bool (dropI H t 1)) ∧ w'.cell? ⟨w1.heap.size, 2, none⟩ = some (.bool (dropI H t 2)) ∧ w'.cell? ⟨w1.heap.size, 3, none⟩ = some (.bool (dropI H t 3)) ∧ w'.cell? ⟨w1.heap.size, 4, none⟩ = some (.bool (dropI H t 4)) ∧ w'.cell? ⟨w1.heap.size, 5, none⟩ = some (.bool (dropI H t 5)) ∧ w'.cell? ⟨w1.heap.size, 6, none⟩ = some (.bool (dropI H t 6)) ∧ w'.cell? ⟨w1.heap.size, 7, none⟩ = some (.bool (dropI H t 7))) ∧ w'.rowIs w.heap.size 128 8 (fun q => .bool (H q)) ∧ SMap w' mb (k + (n - t) * 9 ^ c) M1 ∧ Fr (fun q => q = mb) w w') := by
            refine (HBC.out).mono ?_
            rintro e w' ⟨r, rfl, hset, hb⟩
            have hd : ¬ 0 < r := fun g => hhas ((has_iff hset).2 g)
            obtain rfl : r = 0 := by
              obtain ⟨s, _, hs⟩ := hset
              have hj := (HG.out.times t htn).2.2.2.2.1
              rcases hs with ⟨u, h1, _, _, _, h5⟩ | ⟨h1, _⟩
              · omega
              · exact h1
            have hrow := HRH4.out.of_block (hb.block _ hlh)
            have hrow2 := HRO4.out.of_block (hb.block _ hlo)
            have hfr : Fr (fun q => q = mb) w w' := HFR4.out.then (Fr.of_below _ hb)
            exact ⟨rfl, SSK.out w' hrow2 hrow hfr, hrow2, (HSM4.out.of_block (hb.block _ HSM4.out.lt)).mono (by have := hmul.out; omega), hfr⟩
          have HNF2 : Hid (NoneFrom T n t H) := HNF.out.next (fun _ h => absurd h hhas)
          clear HBC hhas SSK
          first | go_region_with (go_at_call 61; refine (HB2.out).mono ?_; rintro e w5 ⟨rfl, _, q5, q1, q6⟩) | fail
          all_goals
            have HQ1 : Hid (SMap w5 mb (k + (n - t) * 9 ^ c) M1) := q1
            have HQ5 : Hid (w5.rowIs w.heap.size 128 8 (fun q => .bool (H q))) := q5
            have HQ6 : Hid (Fr (fun q => q = mb) w w5) := q6
            clear q1 q5 q6 HB2 e0 e1 e2 e3 e4 e5 e6 e7 o0 y0
            go_wp2
            go_roundw
            case rel => exact ⟨t, M1, by omega, rfl, HNF2.out, HQ5.out, HQ1.out, HMI.out, HEX.out, HQ6.out⟩
            case measure => first | (simp [intOf]; done) | (simp [intOf]; omega)
      · have hHf : H t = false := by simpa using hHt
        rw [hHf] at o0
        have HNF2 : Hid (NoneFrom T n t H) := HNF.out.next (fun h => absurd h hHt)
        have HQ1 : Hid (SMap W4 mb (k + (n - t) * 9 ^ c) M1) := HSM4.out.mono (by have := hmul.out; omega)
        clear hHt hHf
        have ht8 : (t : Int) < 8 := by omega
        go_frame
        go_region
        go_wp2
        go_roundw
        case rel => exact ⟨t, M1, by omega, rfl, HNF2.out, HRO4.out, HQ1.out, HMI.out, HEX.out, HFR4.out.drew⟩
        case measure => first | (simp [intOf]; done) | (simp [intOf]; omega)

end Go.Proofs.YtdabcflpcklfiaaGreat
