import Derived.Test.YtdabcflpcklfiaaGreatA10
namespace Go.Proofs.YtdabcflpcklfiaaGreat
open Go.RowKit

theorem index_none (ao : Option Addr) (cap : Nat) (n : Int) (w : World) :
    Calls Tryz.prog 152 #[.slice ao 0 cap, .int .i64 n] w fun e w' => e = .returned (.int .i64 (-1)) ∧ w' = w := by
  go_enter Tryz.func152, Tryz.ntmps152
  go_wp2
  refine wp_loop_rounds 1 ?_
  rw [rounds_succ]
  go_wp2
  go_ret
  exact ⟨rfl, rfl⟩

theorem contains_none (ao : Option Addr) (cap : Nat) (n : Int) (w : World) :
    Calls Tryz.prog 146 #[.slice ao 0 cap, .int .i64 n] w fun e w' => e = .returned (.bool false) ∧ w' = w := by
  go_enter Tryz.func146, Tryz.ntmps146
  go_wp2_with (go_at_call 152; refine (index_none _ _ _ _).mono ?_; rintro e w' ⟨rfl, rfl⟩)
  go_ret
  exact ⟨rfl, rfl⟩

theorem contains_own {w : World} {base : Nat} {ao : Option Addr} {cap : Nat} {h : List Int} (n : Int) (t : Bool) (ht : decide (n ∈ h) = t) (hm : h.length ≤ 1000) (ho : w.ownsRow base 3 1 (.slice ao h.length cap) h.length (h.map (Value.int .i64))) :
    Calls Tryz.prog 146 #[.slice ao h.length cap, .int .i64 n] w fun e w' => e = .returned (.bool t) ∧ w' = w := by
  subst ht
  obtain ⟨ao', cap', hv, _, hc⟩ := own_shape ho
  cases hv
  by_cases h0 : h = []
  · subst h0
    refine (contains_none _ _ _ _).mono ?_
    rintro e w' ⟨rfl, rfl⟩
    exact ⟨by simp, rfl⟩
  · have hp : 0 < h.length := List.length_pos_iff.2 h0
    obtain ⟨g, rfl, _, _, _⟩ := hc 0 hp
    refine (contains_any g 0 h.length cap (fun i => h.getD i 0) n w (by omega) (fun i hi => ?_)).mono ?_
    · obtain ⟨g', hg', _, _, hcell⟩ := hc i hi
      cases hg'
      simpa using hcell
    · rintro e w' ⟨rfl, rfl⟩
      exact ⟨ret_bool (Cad.hasB_list h n), rfl⟩

set_option maxHeartbeats 400000 in
theorem pmb_short (ao : Option Addr) (len cap : Nat) (w : World) (h : len < 1 ∨ 16 < len) (hm : len ≤ 9223372036854775807) :
    Calls Tryz.prog 126 #[.slice ao len cap] w fun e w' => e = .returned (.bool false) ∧ Below w.heap.size w w' := by
  have hd : decide ((1 : Int) ≤ (len : Int) ∧ (len : Int) ≤ 16) = false := by rw [decide_eq_false_iff_not]; omega
  go_enter Tryz.func126, Tryz.ntmps126
  go_wp2_with fail
  refine (within_any _ _ _ _).mono ?_
  rintro e w' ⟨rfl, rfl⟩
  rw [hd]
  go_wp2
  go_ret
  exact ⟨rfl, Below.refl _ _⟩

set_option maxRecDepth 100000 in
set_option maxHeartbeats 4000000 in
theorem pmb_any (b off len cap : Nat) (K N : Nat → Int) (w : World) (h1 : 1 ≤ len) (h16 : len ≤ 16) (hb : b < w.heap.size) (hc : StepsAt w b off len K N) :
    Calls Tryz.prog 126 #[.slice (some ⟨b, off, none⟩) len cap] w fun e w' => e = .returned (.bool (Cad.progB K N len)) ∧ Below w.heap.size w w' := by
  obtain ⟨i0, hi, hz0, hz1, hz2⟩ := info_parts Tryz.info3
  have hd : decide ((1 : Int) ≤ (len : Int) ∧ (len : Int) ≤ 16) = true := by rw [decide_eq_true_iff]; omega
  have hmk : ∀ w, (Instr.makeSlice 23 (.int .i64 0) (.int .i64 8)).run Tryz.prog w = .ok (.slice (some ⟨w.heap.size, 0, none⟩) 0 8) (w.alloc (.cells #[.int .i64 0, .int .i64 0, .int .i64 0, .int .i64 0, .int .i64 0, .int .i64 0, .int .i64 0, .int .i64 0] 3)) := fun _ => by kernel_rfl
  go_enter Tryz.func126, Tryz.ntmps126
  go_wp2_with fail
  refine (within_any _ _ _ _).mono ?_
  rintro e w' ⟨rfl, hw⟩
  obtain rfl := hw.symm
  clear hw
  rw [hd]
  clear hd
  go_wp2
  clear hmk
  go_loopw [3, 4, 15] (fun v bl i wr => ∃ (k : Nat) (h : List Int), k ≤ len ∧ i = .int .i64 k ∧ bl = .bool (Cad.prevLock K k) ∧ Cad.stTo K N k = some h ∧ wr.ownsRow w.heap.size 3 1 v h.length (h.map (Value.int .i64)) ∧ Below w.heap.size w wr)
    (fun _ _ i _ => len - (intOf i).toNat)
  case atStart => exact ⟨0, [], Nat.zero_le _, rfl, rfl, rfl, World.ownsRow_made _ _ _ (Nat.le_refl _) (by decide) rfl, below_alloc1 _ _⟩
  case round =>
    obtain ⟨k, h, hk, rfl, rfl, hst, hown, hbel⟩ := hrel
    have hhl : h.length ≤ k := Cad.stTo_len _ _ _ _ hst
    have HST : Hid (Cad.stTo K N k = some h) := hst
    clear hst
    obtain ⟨ao, hcap, rfl, hle, hhc⟩ := own_shape hown
    have HHC := (show Hid _ from hhc)
    clear hhc
    have hbwr : b < wr.heap.size := Nat.lt_of_lt_of_le hb hbel.size
    have hsz : w.heap.size ≤ wr.heap.size := hbel.size
    by_cases hlt : k < len
    · have hck : wr.cell? ⟨b, off + k * 2, none⟩ = some (.int .i64 (K k)) := (hbel.cell (by exact hb)).trans (hc k hlt).1
      have hcn : wr.cell? ⟨b, off + k * 2 + 1, none⟩ = some (.int .i64 (N k)) := (hbel.cell (by exact hb)).trans (hc k hlt).2
      have hps := Cad.prevLock_succ K k
      generalize hK : K k = kk at *
      generalize hN : N k = nn at *
      have HK : Hid (K k = kk) := hK
      have HN : Hid (N k = nn) := hN
      have HPS : Hid (Cad.prevLock K (k + 1) = (kk == 2)) := hps
      clear hK hN hps
      have HB : ∀ o, Below w.heap.size w (wr.alloc o) := fun o => hbel.alloc hbel.size o
      have HD : ∀ o n, Below w.heap.size w ((wr.alloc o).drewN n) := fun o n => below_drewN (HB o) n
      by_cases e1 : kk = 1
      · subst e1
        by_cases g1 : 1 ≤ nn ∧ nn ≤ 100
        · have hd : decide ((1 : Int) ≤ nn ∧ nn ≤ 100) = true := by simpa using g1
          go_wp2_with fail
          refine (within_any _ _ _ _).mono ?_
          rintro e w' ⟨rfl, rfl⟩
          rw [hd]
          go_wp2
          go_roundw
          case rel => exact ⟨k + 1, h, by omega, by go_num, by rw [HPS.out]; rfl, Cad.stTo_step HST.out (by rw [HK.out, HN.out]; exact Cad.stepF_compute g1.1 g1.2), hown.alloc _, HB _⟩
          case measure => simp [intOf]; omega
        · have hd : decide ((1 : Int) ≤ nn ∧ nn ≤ 100) = false := by rw [decide_eq_false_iff_not]; exact g1
          go_wp2_with fail
          refine (within_any _ _ _ _).mono ?_
          rintro e w' ⟨rfl, rfl⟩
          rw [hd]
          go_wp2
          go_ret
          exact ⟨ret_bool (Cad.stTo_bad hlt HST.out (by rw [HK.out, HN.out]; exact Cad.stepF_compute_no g1)).symm, HB _⟩
      · by_cases e2 : kk = 2
        · subst e2
          by_cases g0 : 0 ≤ nn ∧ nn ≤ 7
          · have hd : decide ((0 : Int) ≤ nn ∧ nn ≤ 7) = true := by simpa using g0
            by_cases hin : nn ∈ h
            · have hdin : decide (nn ∈ h) = true := by simpa using hin
              have FIN : Hid (Cad.progB K N len = false) := Cad.stTo_bad hlt HST.out (by rw [HK.out, HN.out]; exact Cad.stepF_lock_no (fun e => e.2.2 hin))
              clear hin
              go_wp2_with fail
              refine (within_any _ _ _ _).mono ?_
              rintro e w' ⟨rfl, rfl⟩
              rw [hd]
              go_wp2_with fail
              refine (contains_own nn _ hdin (by omega) (hown.alloc _)).mono ?_
              rintro e w' ⟨rfl, rfl⟩
              go_wp2
              go_ret
              exact ⟨ret_bool FIN.out.symm, HB _⟩
            · have hdin : decide (nn ∈ h) = false := by simpa using hin
              go_wp2_with fail
              refine (within_any _ _ _ _).mono ?_
              rintro e w' ⟨rfl, rfl⟩
              rw [hd]
              go_wp2_with fail
              refine (contains_own nn _ hdin (by omega) (hown.alloc _)).mono ?_
              rintro e w' ⟨rfl, rfl⟩
              go_wp2_with (at_builtin; refine wpList_append_own _ rfl _ _ 23 rfl w.heap.size 3 i0 (.int .i64 0) 1 8 Tryz.underlying23 hi hz0 hz1 hz2 rfl (by decide) _ _ _ rfl ((hown.alloc _).alloc _) ⟨wr.heap.size + 1, 0, none⟩ 1 1 [.int .i64 nn] rfl rfl ?c1 ?c2 ?c3 ?c4 ?c5 ?_)
              case c1 => exact cell_one_at _ _ (by simp) _ _
              case c2 => exact one_oneCell rfl
              case c3 => unfold maxLen; omega
              case c4 => omega
              case c5 => simp; omega
              · intro v' w1 hown' hgrow _
                have hb1 : Below w.heap.size w w1 := ((hbel.alloc hbel.size _).alloc (by simp; omega) _).grown hgrow (by simp; omega) (fun k hk => (hown.lt k hk).1)
                have hown2 : w1.ownsRow w.heap.size 3 1 v' (h ++ [nn]).length ((h ++ [nn]).map (Value.int .i64)) := by simpa using hown'
                have hcx : w1.cell? ⟨wr.heap.size, 0, none⟩ = some (.int .i64 2) := hgrow.cell (by simp) (fun e => by have := hown.lt _ e.symm; simp at this)
                clear hown' hgrow
                go_wp2
                go_roundw
                case rel => exact ⟨k + 1, h ++ [nn], by omega, by go_num, by rw [HPS.out]; rfl, Cad.stTo_step HST.out (by rw [HK.out, HN.out]; exact Cad.stepF_lock g0.1 g0.2 hin), hown2, hb1⟩
                case measure => simp [intOf]; omega
          · have hd : decide ((0 : Int) ≤ nn ∧ nn ≤ 7) = false := by rw [decide_eq_false_iff_not]; exact g0
            go_wp2_with fail
            refine (within_any _ _ _ _).mono ?_
            rintro e w' ⟨rfl, rfl⟩
            rw [hd]
            go_wp2
            go_ret
            exact ⟨ret_bool (Cad.stTo_bad hlt HST.out (by rw [HK.out, HN.out]; exact Cad.stepF_lock_no (fun e => g0 ⟨e.1, e.2.1⟩))).symm, HB _⟩
        · by_cases e3 : kk = 3
          · subst e3
            generalize hpb : Cad.prevLock K k = pb at *
            have HPB : Hid (Cad.prevLock K k = pb) := hpb
            clear hpb
            cases pb
            · by_cases h0 : h.length = 0
              · have FIN : Hid (Cad.progB K N len = false) := Cad.stTo_bad hlt HST.out (by rw [HK.out, HN.out]; exact Cad.stepF_unlock_no (by rintro ⟨_, e⟩; simp [List.eq_nil_of_length_eq_zero h0] at e))
                obtain rfl : h = [] := List.eq_nil_of_length_eq_zero h0
                clear h0 HHC hown
                go_wp2
                go_quiet (fail)
                go_wp2
                go_ret
                exact ⟨ret_bool FIN.out.symm, HD _ _⟩
              · have hpl : 0 < h.length := by omega
                obtain ⟨g, rfl, hg1, hg2, hgc⟩ := HHC.out (h.length - 1) (by omega)
                have hgl : Hid (h.getLast? = some (h.getD (h.length - 1) 0)) := Cad.last_getD (fun e => h0 (by simp [e]))
                generalize hlv : h.getD (h.length - 1) 0 = lv at *
                have HLV : Hid (h.getD (h.length - 1) 0 = lv) := hlv
                clear hlv
                have hlast0 : decide ((h.length : Int) - 1 < 0) = false := by rw [decide_eq_false_iff_not]; omega
                by_cases hq : lv = nn
                · have hq' : (lv != nn) = false := by simpa using hq
                  have HST2 : Hid (Cad.stTo K N (k + 1) = some h.dropLast) := Cad.stTo_step HST.out (by rw [HK.out, HN.out, HPB.out]; exact Cad.stepF_unlock (by rw [hgl.out, hq]))
                  clear hq
                  have hpop : wr.ownsRow w.heap.size 3 1 (.slice (some ⟨g, 0, none⟩) h.dropLast.length hcap) h.dropLast.length (h.dropLast.map (Value.int .i64)) := own_pop hpl hown
                  have hlen' : h.dropLast.length = h.length - 1 := by simp
                  rw [hlen'] at hpop
                  have HPOP : Hid _ := hpop
                  clear hpop hlen'
                  go_wp2
                  go_quiet (fail)
                  go_wp2
                  go_roundw
                  case rel => exact ⟨k + 1, h.dropLast, by omega, by go_num, by rw [HPS.out]; rfl, HST2.out, by rw [show h.dropLast.length = h.length - 1 by simp]; exact own_drewN (World.ownsRow.alloc HPOP.out _) _, HD _ _⟩
                  case measure => simp [intOf]; omega
                · have hq' : (lv != nn) = true := by simpa using hq
                  have FIN : Hid (Cad.progB K N len = false) := Cad.stTo_bad hlt HST.out (by rw [HK.out, HN.out]; exact Cad.stepF_unlock_no (by rintro ⟨_, e⟩; rw [hgl.out] at e; exact hq (Option.some.inj e)))
                  clear hq
                  go_wp2
                  go_quiet (fail)
                  go_wp2
                  go_ret
                  exact ⟨ret_bool FIN.out.symm, HD _ _⟩
            · have FIN : Hid (Cad.progB K N len = false) := Cad.stTo_bad hlt HST.out (by rw [HK.out, HN.out, HPB.out]; exact Cad.stepF_unlock_no (by simp))
              go_wp2
              go_quiet (fail)
              go_wp2
              go_ret
              exact ⟨ret_bool FIN.out.symm, HD _ _⟩
          · have b1 : (kk == 1) = false := by simpa using e1
            have b2 : (kk == 2) = false := by simpa using e2
            have b3 : (kk == 3) = false := by simpa using e3
            have FIN : Hid (Cad.progB K N len = false) := Cad.stTo_bad hlt HST.out (by rw [HK.out, HN.out]; exact Cad.stepF_else e1 e2 e3)
            clear e1 e2 e3
            go_wp2
            go_ret
            exact ⟨ret_bool FIN.out.symm, HB _⟩
    · obtain rfl : k = len := by omega
      by_cases h0 : h = []
      · subst h0
        have hcl : wr.cell? ⟨b, off + (k - 1) * 2, none⟩ = some (.int .i64 (K (k - 1))) := (hbel.cell (by exact hb)).trans (hc (k - 1) (by omega)).1
        clear HHC
        go_wp2
        go_ret
        exact ⟨ret_bool (Cad.progB_end2 h1 h16 HST.out rfl).symm, hbel⟩
      · have hb0 : ((h.length : Int) == 0) = false := by
          have := List.length_pos_iff.2 h0
          rw [beq_eq_false_iff_ne]; omega
        have FIN : Hid (Cad.progB K N k = false) := Cad.progB_end3 HST.out h0
        clear h0
        go_wp2
        go_ret
        exact ⟨ret_bool FIN.out.symm, hbel⟩
end Go.Proofs.YtdabcflpcklfiaaGreat
