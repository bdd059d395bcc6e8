import Derived.Test.YtdabcflpcklfiaaGreatA09
namespace Go.Proofs.YtdabcflpcklfiaaGreat
open Go.RowKit

theorem Tryz.info3 : (Tryz.prog.info? 3).map (fun i => (i.zero, i.size, i.bytes)) = some (some (.int .i64 0), 1, 8) := by kernel_rfl

/-- The cells of a program's steps. -/
def StepsAt (w : World) (b off len : Nat) (K N : Nat → Int) : Prop :=
  ∀ i, i < len → w.cell? ⟨b, off + i * 2, none⟩ = some (.int .i64 (K i)) ∧ w.cell? ⟨b, off + i * 2 + 1, none⟩ = some (.int .i64 (N i))

set_option maxHeartbeats 400000 in
theorem prog_short (ao : Option Addr) (len cap : Nat) (w : World) (h : len < 1 ∨ 16 < len) (hm : len ≤ 9223372036854775807) :
    Calls Tryz.prog 69 #[.slice ao len cap] w fun e w' => e = .returned (.bool false) ∧ Below w.heap.size w w' := by
  by_cases h1 : len < 1
  · go_enter Tryz.func69, Tryz.ntmps69
    go_wp2
    go_ret
    exact ⟨rfl, Below.refl _ _⟩
  · have h2 : 16 < len := by omega
    clear h
    go_enter Tryz.func69, Tryz.ntmps69
    go_wp2
    go_ret
    exact ⟨rfl, Below.refl _ _⟩

theorem cell_one_at (X : World) (n : Nat) (hn : n = X.heap.size) (v : Value) (t : TypeId) : ∀ j u, [v][j]? = some u → (X.alloc (.cells #[v] t)).cell? ((⟨n, 0, none⟩ : Addr).add j) = some u := by
  subst hn
  exact cell_one_new X v t

theorem one_oneCell {v : Value} (h : v.oneCell' = true) : ∀ u ∈ [v], u.oneCell' = true := by
  intro u hu
  simp at hu
  subst hu
  exact h

/-- A list of numbers that the call owns, by its value's shape. -/
theorem own_shape {w : World} {base : Nat} {v : Value} {h : List Int} (ho : w.ownsRow base 3 1 v h.length (h.map (Value.int .i64))) :
    ∃ ao cap, v = .slice ao h.length cap ∧ h.length ≤ cap ∧ ∀ i, i < h.length → ∃ g, ao = some ⟨g, 0, none⟩ ∧ base ≤ g ∧ g < w.heap.size ∧ w.cell? ⟨g, i, none⟩ = some (.int .i64 (h.getD i 0)) := by
  rcases ho.2 with ⟨hv, h0⟩ | ⟨g, cap, cur, hv, hb, hg, hle, _, _, ht⟩
  · exact ⟨none, 0, by rw [hv, h0], by omega, fun i hi => by omega⟩
  · refine ⟨some ⟨g, 0, none⟩, cap, hv, hle, fun i hi => ⟨g, rfl, hb, (Array.getElem?_eq_some_iff.1 hg).1, ?_⟩⟩
    have := ho.cells (g := g) (by rw [hv]; rfl) i (.int .i64 (h.getD i 0)) (by simp [List.getD, hi])
    rw [Addr.add_lit, Nat.zero_add] at this
    exact this

theorem own_pop {w : World} {base g cap : Nat} {h : List Int} (hp : 0 < h.length) (ho : w.ownsRow base 3 1 (.slice (some ⟨g, 0, none⟩) h.length cap) h.length (h.map (Value.int .i64))) :
    w.ownsRow base 3 1 (.slice (some ⟨g, 0, none⟩) h.dropLast.length cap) h.dropLast.length (h.dropLast.map (Value.int .i64)) := by
  have hn : h ≠ [] := List.length_pos_iff.1 hp
  have e : h.length = h.dropLast.length + 1 := by simp; omega
  rw [e] at ho
  have e2 : h.map (Value.int .i64) = h.dropLast.map (Value.int .i64) ++ [Value.int .i64 (h.getLast hn)] := by
    conv => lhs; rw [← List.dropLast_concat_getLast hn]
    simp
  rw [e2] at ho
  exact ownsRow_pop (by simp) ho

theorem own_drewN {w : World} {base e size : Nat} {v : Value} {n : Nat} {xs : List Value} (h : w.ownsRow base e size v n xs) (m : Nat) : (w.drewN m).ownsRow base e size v n xs := h

theorem has_own {w : World} {base : Nat} {ao : Option Addr} {cap : Nat} {h : List Int} (n : Int) (t : Bool) (ht : decide (n ∈ h) = t) (hm : h.length ≤ 1000) (ho : w.ownsRow base 3 1 (.slice ao h.length cap) h.length (h.map (Value.int .i64))) :
    Calls Tryz.prog 76 #[.slice ao h.length cap, .int .i64 n] w fun e w' => e = .returned (.bool t) ∧ w' = w := by
  subst ht
  obtain ⟨ao', cap', hv, _, hc⟩ := own_shape ho
  cases hv
  by_cases h0 : h = []
  · subst h0
    refine (has_none _ _ _ _).mono ?_
    rintro e w' ⟨rfl, rfl⟩
    exact ⟨by simp, rfl⟩
  · have hp : 0 < h.length := List.length_pos_iff.2 h0
    obtain ⟨g, rfl, _, _, _⟩ := hc 0 hp
    refine (has_any g 0 h.length cap (fun i => h.getD i 0) n w (by omega) (fun i hi => ?_)).mono ?_
    · obtain ⟨g', hg', _, _, hcell⟩ := hc i hi
      cases hg'
      simpa using hcell
    · rintro e w' ⟨rfl, rfl⟩
      exact ⟨ret_bool (Cad.hasB_list h n), rfl⟩

set_option maxRecDepth 100000 in
set_option maxHeartbeats 4000000 in
theorem prog_any (b off len cap : Nat) (K N : Nat → Int) (w : World) (h1 : 1 ≤ len) (h16 : len ≤ 16) (hb : b < w.heap.size) (hc : StepsAt w b off len K N) :
    Calls Tryz.prog 69 #[.slice (some ⟨b, off, none⟩) len cap] w fun e w' => e = .returned (.bool (Cad.progB K N len)) ∧ Below w.heap.size w w' := by
  obtain ⟨i0, hi, hz0, hz1, hz2⟩ := info_parts Tryz.info3
  have hlast := (hc (len - 1) (by omega)).1
  have hd1 : decide ((len : Int) < 1) = false := by simp; omega
  have hd2 : decide (16 < (len : Int)) = false := by simp; omega
  by_cases hl : K (len - 1) = 1
  · have hl' : (K (len - 1) != 1) = false := by simp [hl]
    have HL : Hid (K (len - 1) = 1) := hl
    clear hl
    go_enter Tryz.func69, Tryz.ntmps69
    go_wp2
    clear hl' hlast hd1 hd2
    go_loopw [3, 4] (fun v i wr => ∃ (k : Nat) (h : List Int), k ≤ len ∧ i = .int .i64 k ∧ Cad.stTo K N k = some h ∧ wr.ownsRow w.heap.size 3 1 v h.length (h.map (Value.int .i64)) ∧ Below w.heap.size w wr)
      (fun _ i _ => len - (intOf i).toNat)
    case atStart => exact ⟨0, [], Nat.zero_le _, rfl, rfl, World.ownsRow_nil _ _ _ _, Below.refl _ _⟩
    case round =>
      obtain ⟨k, h, hk, rfl, hst, hown, hbel⟩ := hrel
      have hhl : h.length ≤ k := Cad.stTo_len _ _ _ _ hst
      have HST : Hid (Cad.stTo K N k = some h) := hst
      clear hst
      obtain ⟨ao, hcap, rfl, hle, hhc⟩ := own_shape hown
      have HHC := (show Hid _ from hhc)
      clear hhc
      by_cases hlt : k < len
      · have hck : wr.cell? ⟨b, off + k * 2, none⟩ = some (.int .i64 (K k)) := (hbel.cell (by exact hb)).trans (hc k hlt).1
        have hcn : wr.cell? ⟨b, off + k * 2 + 1, none⟩ = some (.int .i64 (N k)) := (hbel.cell (by exact hb)).trans (hc k hlt).2
        generalize hK : K k = kk at *
        generalize hN : N k = nn at *
        have HK : Hid (K k = kk) := hK
        have HN : Hid (N k = nn) := hN
        clear hK hN
        have hbwr : b < wr.heap.size := Nat.lt_of_lt_of_le hb hbel.size
        have hsz : w.heap.size ≤ wr.heap.size := hbel.size
        have HB : ∀ o, Below w.heap.size w (wr.alloc o) := fun o => hbel.alloc hbel.size o
        have HD : ∀ o n, Below w.heap.size w ((wr.alloc o).drewN n) := fun o n => below_drewN (HB o) n
        by_cases e1 : kk = 1
        · subst e1
          by_cases g1 : 1 ≤ nn ∧ nn ≤ 100
          · go_wp2_with fail
            refine (has_own nn _ rfl (by omega) (hown.alloc _)).mono ?_
            rintro e w' ⟨rfl, rfl⟩
            go_wp2
            go_roundw
            case rel => exact ⟨k + 1, h, by omega, by go_num, Cad.stTo_step HST.out (by rw [HK.out, HN.out]; exact Cad.stepF_compute g1.1 g1.2), hown.alloc _, HB _⟩
            case measure => simp [intOf]; omega
          · go_wp2_with fail
            refine (has_own nn _ rfl (by omega) (hown.alloc _)).mono ?_
            rintro e w' ⟨rfl, rfl⟩
            go_wp2
            all_goals
              go_quiet (fail)
              go_wp2
              go_ret
              exact ⟨ret_bool (Cad.stTo_bad hlt HST.out (by rw [HK.out, HN.out]; exact Cad.stepF_compute_no g1)).symm, HD _ _⟩
        · by_cases e2 : kk = 2
          · subst e2
            by_cases g1 : 0 ≤ nn ∧ nn ≤ 7 ∧ nn ∉ h
            · obtain ⟨g1a, g1b, g1c⟩ := g1
              have hdin : decide (nn ∈ h) = false := by simpa using g1c
              go_wp2_with fail
              refine (has_own nn _ hdin (by omega) (hown.alloc _)).mono ?_
              rintro e w' ⟨rfl, rfl⟩
              go_wp2_with (at_builtin; refine wpList_append_own _ rfl _ _ 23 rfl w.heap.size 3 i0 (.int .i64 0) 1 8 Tryz.underlying23 hi hz0 hz1 hz2 rfl (by decide) _ _ _ rfl ((hown.alloc _).alloc _) ⟨wr.heap.size + 1, 0, none⟩ 1 1 [.int .i64 nn] rfl rfl ?c1 ?c2 ?c3 ?c4 ?c5 ?_)
              case c1 => exact cell_one_at _ _ (by simp) _ _
              case c2 => exact one_oneCell rfl
              case c3 => unfold maxLen; omega
              case c4 => omega
              case c5 => simp; omega
              · intro v' w1 hown' hgrow _
                have hb1 : Below w.heap.size w w1 := ((hbel.alloc hbel.size _).alloc (by simp; omega) _).grown hgrow (by simp; omega) (fun k hk => (hown.lt k hk).1)
                have hown2 : w1.ownsRow w.heap.size 3 1 v' (h ++ [nn]).length ((h ++ [nn]).map (Value.int .i64)) := by simpa using hown'
                clear hown' hgrow
                go_wp2
                go_roundw
                case rel => exact ⟨k + 1, h ++ [nn], by omega, by go_num, Cad.stTo_step HST.out (by rw [HK.out, HN.out]; exact Cad.stepF_lock g1a g1b g1c), hown2, hb1⟩
                case measure => simp [intOf]; omega
            · have fin : Cad.progB K N len = false := Cad.stTo_bad hlt HST.out (by rw [HK.out, HN.out]; exact Cad.stepF_lock_no g1)
              have FIN : Hid (Cad.progB K N len = false) := fin
              clear fin
              by_cases hin : nn ∈ h
              · have hdin : decide (nn ∈ h) = true := by simpa using hin
                clear hin g1
                go_wp2_with fail
                refine (has_own nn _ hdin (by omega) (hown.alloc _)).mono ?_
                rintro e w' ⟨rfl, rfl⟩
                clear hdin
                go_wp2
                all_goals
                  go_quiet (fail)
                  go_wp2
                  go_ret
                  exact ⟨ret_bool FIN.out.symm, HD _ _⟩
              · have hdin : decide (nn ∈ h) = false := by simpa using hin
                have g2 : ¬ (0 ≤ nn ∧ nn ≤ 7) := fun e => g1 ⟨e.1, e.2, hin⟩
                clear hin g1
                go_wp2_with fail
                refine (has_own nn _ hdin (by omega) (hown.alloc _)).mono ?_
                rintro e w' ⟨rfl, rfl⟩
                clear hdin
                go_wp2
                all_goals
                  go_quiet (fail)
                  go_wp2
                  go_ret
                  exact ⟨ret_bool FIN.out.symm, HD _ _⟩
          · by_cases e3 : kk = 3
            · subst e3
              by_cases h0 : h.length = 0
              · have fin : Cad.progB K N len = false := Cad.stTo_bad hlt HST.out (by rw [HK.out, HN.out]; exact Cad.stepF_unlock_no (by rintro ⟨_, e⟩; simp [List.eq_nil_of_length_eq_zero h0] at e))
                have FIN : Hid (Cad.progB K N len = false) := fin
                clear fin
                obtain rfl : h = [] := List.eq_nil_of_length_eq_zero h0
                clear h0 HHC hown
                go_wp2_with fail
                refine (has_none _ _ _ _).mono ?_
                rintro e w' ⟨rfl, rfl⟩
                go_wp2
                go_quiet (fail)
                go_wp2
                go_ret
                exact ⟨ret_bool FIN.out.symm, HD _ _⟩
              · have hk1 : 1 ≤ k := by omega
                have hpl : 0 < h.length := by omega
                obtain ⟨g, rfl, hg1, hg2, hgc⟩ := HHC.out (h.length - 1) (by omega)
                have hgl : Hid (h.getLast? = some (h.getD (h.length - 1) 0)) := Cad.last_getD (fun e => h0 (by simp [e]))
                generalize hlv : h.getD (h.length - 1) 0 = lv at *
                have HLV : Hid (h.getD (h.length - 1) 0 = lv) := hlv
                clear hlv
                have hcp : wr.cell? ⟨b, off + (k - 1) * 2, none⟩ = some (.int .i64 (K (k - 1))) := (hbel.cell (by exact hb)).trans (hc (k - 1) (by omega)).1
                generalize hpk : K (k - 1) = pk at *
                have HPK : Hid (K (k - 1) = pk) := hpk
                clear hpk
                have hprev : Cad.prevLock K k = decide (pk = 2) := by unfold Cad.prevLock; rw [HPK.out]; simp; intro _; omega
                have HPREV : Hid (Cad.prevLock K k = decide (pk = 2)) := hprev
                clear hprev
                by_cases hq : lv = nn
                · have hq' : (lv == nn) = true := by simpa using hq
                  by_cases hp2 : pk = 2
                  · have hp' : (pk != 2) = false := by simp [hp2]
                    have fin : Cad.progB K N len = false := Cad.stTo_bad hlt HST.out (by rw [HK.out, HN.out, HPREV.out]; exact Cad.stepF_unlock_no (by simp [hp2]))
                    have FIN : Hid (Cad.progB K N len = false) := fin
                    clear fin hq hp2
                    go_wp2_with fail
                    refine (has_own nn _ rfl (by omega) (hown.alloc _)).mono ?_
                    rintro e w' ⟨rfl, rfl⟩
                    go_wp2
                    go_quiet (fail)
                    go_wp2
                    go_ret
                    exact ⟨ret_bool FIN.out.symm, HD _ _⟩
                  · have hp' : (pk != 2) = true := by simpa using hp2
                    have hst2 : Cad.stTo K N (k + 1) = some h.dropLast := Cad.stTo_step HST.out (by rw [HK.out, HN.out, HPREV.out, show decide (pk = 2) = false by simpa using hp2]; exact Cad.stepF_unlock (by rw [hgl.out, hq]))
                    have HST2 : Hid (Cad.stTo K N (k + 1) = some h.dropLast) := hst2
                    clear hst2 hq hp2
                    have hpop : wr.ownsRow w.heap.size 3 1 (.slice (some ⟨g, 0, none⟩) h.dropLast.length hcap) h.dropLast.length (h.dropLast.map (Value.int .i64)) := own_pop hpl hown
                    have hlen' : h.dropLast.length = h.length - 1 := by simp
                    rw [hlen'] at hpop
                    have HPOP : Hid _ := hpop
                    clear hpop hlen'
                    go_wp2_with fail
                    refine (has_own nn _ rfl (by omega) (hown.alloc _)).mono ?_
                    rintro e w' ⟨rfl, rfl⟩
                    go_wp2
                    go_quiet (fail)
                    go_wp2
                    go_roundw
                    case rel => exact ⟨k + 1, h.dropLast, by omega, by go_num, HST2.out, by rw [show h.dropLast.length = h.length - 1 by simp]; exact own_drewN (World.ownsRow.alloc HPOP.out _) _, HD _ _⟩
                    case measure => simp [intOf]; omega
                · have hq' : (lv == nn) = false := by simpa using hq
                  have fin : Cad.progB K N len = false := Cad.stTo_bad hlt HST.out (by rw [HK.out, HN.out, HPREV.out]; exact Cad.stepF_unlock_no (by rintro ⟨_, e⟩; rw [hgl.out] at e; exact hq (Option.some.inj e)))
                  have FIN : Hid (Cad.progB K N len = false) := fin
                  clear fin hq
                  go_wp2_with fail
                  refine (has_own nn _ rfl (by omega) (hown.alloc _)).mono ?_
                  rintro e w' ⟨rfl, rfl⟩
                  go_wp2
                  go_quiet (fail)
                  go_wp2
                  go_ret
                  exact ⟨ret_bool FIN.out.symm, HD _ _⟩
            · go_wp2_with fail
              refine (has_own nn _ rfl (by omega) (hown.alloc _)).mono ?_
              rintro e w' ⟨rfl, rfl⟩
              have b1 : (kk == 1) = false := by simpa using e1
              have b2 : (kk == 2) = false := by simpa using e2
              have b3 : (kk == 3) = false := by simpa using e3
              clear e1 e2 e3
              go_wp2
              go_quiet (fail)
              go_wp2
              go_ret
              exact ⟨ret_bool (Cad.stTo_bad hlt HST.out (by rw [HK.out, HN.out]; exact Cad.stepF_else (by simpa using b1) (by simpa using b2) (by simpa using b3))).symm, HD _ _⟩
      · go_wp2
        go_ret
        obtain rfl : k = len := by omega
        exact ⟨ret_bool (Cad.progB_end h1 h16 HL.out HST.out).symm, hbel⟩
  · have hl' : (K (len - 1) != 1) = true := by simp [hl]
    have HL : Hid (¬ K (len - 1) = 1) := hl
    clear hl
    go_enter Tryz.func69, Tryz.ntmps69
    go_wp2
    go_ret
    exact ⟨ret_bool (by simp [Cad.progB, HL.out]), Below.refl _ _⟩
end Go.Proofs.YtdabcflpcklfiaaGreat
