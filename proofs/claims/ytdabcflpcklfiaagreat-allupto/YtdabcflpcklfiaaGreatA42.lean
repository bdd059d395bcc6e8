import Derived.Test.YtdabcflpcklfiaaGreatA40
/- The law: are all lists as they were left? -/
namespace Go.Proofs.YtdabcflpcklfiaaGreat
open Go.RowKit Cad

theorem LM.cellW {M : Nat → Prop} {w : World} {Wb : Nat} {V : Nat → Value} {C : Nat → List Value} {last : Int} (h : LM M w Wb V C last) {i : Nat} (hi : i < 8) : w.cell? ⟨Wb, i, none⟩ = some (V i) := by
  rw [h.row.cell (by omega)]
  unfold lrow
  rw [if_neg (by omega)]

theorem LM.shape {M : Nat → Prop} {w : World} {Wb : Nat} {V : Nat → Value} {C : Nat → List Value} {last : Int} (h : LM M w Wb V C last) {i : Nat} (hi : i < 8) : ∃ ao cap, V i = .slice ao (C i).length cap := own_shapeK (h.own i hi)

theorem LM.elem {M : Nat → Prop} {w : World} {Wb : Nat} {V : Nat → Value} {C : Nat → List Value} {last : Int} (h : LM M w Wb V C last) {i j : Nat} (hi : i < 8) {u : Value} (hj : (C i)[j]? = some u) : ∃ g cap, V i = .slice (some ⟨g, 0, none⟩) (C i).length cap ∧ g < w.heap.size ∧ w.cell? ⟨g, j, none⟩ = some u := by
  have ho := h.own i hi
  have hlt := (List.getElem?_eq_some_iff.1 hj).1
  rcases ho.2 with ⟨_, h0⟩ | ⟨g, cap, cur, hv, _, hg, _⟩
  · omega
  · refine ⟨g, cap, hv, (Array.getElem?_eq_some_iff.1 hg).1, ?_⟩
    have := ho.cells (g := g) (by rw [hv]; rfl) j u hj
    rw [Addr.add_lit, Nat.zero_add] at this
    exact this

set_option maxRecDepth 100000 in
set_option maxHeartbeats 16000000 in
theorem kept_any {w : World} {Wb : Nat} {V : Nat → Value} {C : Nat → List Value} {last : Int} {M E : Nat → Prop} (hm : LM M w Wb V C last) (he : LE E w C) (hC : ∀ i, i < 8 → (C i).length ≤ 1000000000000) :
    Calls Tryz.prog 22 #[.pointer (some ⟨Wb, 0, none⟩)] w fun e w' => e = .returned (.bool true) ∧ Below w.heap.size w w' := by
  have HM : Hid (LM M w Wb V C last) := hm
  have HE : Hid (LE E w C) := he
  have HC : Hid (∀ i, i < 8 → (C i).length ≤ 1000000000000) := hC
  clear hm he hC
  go_enter Tryz.func22, Tryz.ntmps22
  go_wp2_with fail
  go_loopw [3] (fun iv wr => ∃ i : Nat, i ≤ (C 1).length ∧ iv = .int .i64 i ∧ Below w.heap.size w wr) (fun iv _ => (C 1).length - (intOf iv).toNat)
  case atStart => exact ⟨0, Nat.zero_le _, rfl, Below.refl _ _⟩
  case round =>
    obtain ⟨wo, hwo⟩ : ∃ x, x = wr := ⟨_, rfl⟩
    subst hwo
    obtain ⟨i, hi, rfl, hb⟩ := hrel
    have hl1 := HC.out 1 (by omega)
    have HB : Hid (Below w.heap.size w wo) := hb
    have hmr := HM.out.below hb
    have a1 := hmr.cellW (i := 1) (by omega)
    have hwl := hmr.row.lt
    by_cases hlt : i < (C 1).length
    · obtain ⟨v, hv⟩ : ∃ v, (C 1)[i]? = some v := ⟨_, List.getElem?_eq_getElem hlt⟩
      obtain ⟨g1, c1, hv1, hg1, hc1⟩ := hmr.elem (by omega) hv
      obtain ⟨mk, hmk, ao, len, cap, hve, hlen, hel⟩ := HE.out.je i v hv
      subst hve
      rw [hv1] at a1
      obtain ⟨g2, c2, hv2, hg2, hc2⟩ := hmr.elem (i := 2) (by omega) hmk
      have a2 := hmr.cellW (i := 2) (by omega)
      rw [hv2] at a2
      have hll := HE.out.jlen
      rw [← hll] at a2
      have hd : ((mk : Int) != mk) = false := by simp
      have HEL : Hid (1 ≤ len → ∃ g, ao = some ⟨g, 0, none⟩ ∧ g < w.heap.size ∧ ∀ q, q < len * 5 → w.cell? ⟨g, q, none⟩ = some (.int .i64 mk)) := by
        intro h1
        obtain ⟨g, e1, _, ⟨_, _, hr⟩, hq⟩ := hel h1
        exact ⟨g, e1, hr.lt, hq⟩
      clear hmr hb hel hv hv1 hmk hv2 hll
      generalize (C 1).length = cl at *
      go_wp2_with fail
      go_loopw [4] (fun kv wr => ∃ k : Nat, k ≤ len ∧ kv = .int .i64 k ∧ Below wo.heap.size wo wr) (fun kv _ => len - (intOf kv).toNat)
      case atStart => exact ⟨0, Nat.zero_le _, rfl, Below.refl _ _⟩
      case round =>
        obtain ⟨k, hk, rfl, hb2⟩ := hrel
        have HB2 : Hid (Below wo.heap.size wo wr) := hb2
        have d1 : wr.cell? ⟨Wb, 1, none⟩ = some (.slice (some ⟨g1, 0, none⟩) cl c1) := (hb2.cell (p := ⟨Wb, 1, none⟩) hwl).trans a1
        have d2 : wr.cell? ⟨g1, i, none⟩ = some (.slice ao len cap) := (hb2.cell (p := ⟨g1, i, none⟩) hg1).trans hc1
        have d3 : wr.cell? ⟨Wb, 2, none⟩ = some (.slice (some ⟨g2, 0, none⟩) cl c2) := (hb2.cell (p := ⟨Wb, 2, none⟩) hwl).trans a2
        have d4 : wr.cell? ⟨g2, i, none⟩ = some (.int .i64 mk) := (hb2.cell (p := ⟨g2, i, none⟩) hg2).trans hc2
        have hsz := hb2.size
        by_cases hkl : k < len
        · obtain ⟨g, rfl, hgl, hq⟩ := HEL.out (by omega)
          have hgw : g < wo.heap.size := Nat.lt_of_lt_of_le hgl HB.out.size
          have x0 : wr.cell? ⟨g, k * 5, none⟩ = some (.int .i64 mk) := ((hb2.cell (p := ⟨g, k * 5, none⟩) hgw).trans (HB.out.cell (p := ⟨g, k * 5, none⟩) hgl)).trans ((hq (k * 5) (by omega)).trans rfl)
          have x1 : wr.cell? ⟨g, k * 5 + 1, none⟩ = some (.int .i64 mk) := ((hb2.cell (p := ⟨g, k * 5 + 1, none⟩) hgw).trans (HB.out.cell (p := ⟨g, k * 5 + 1, none⟩) hgl)).trans ((hq (k * 5 + 1) (by omega)).trans rfl)
          have x2 : wr.cell? ⟨g, k * 5 + 2, none⟩ = some (.int .i64 mk) := ((hb2.cell (p := ⟨g, k * 5 + 2, none⟩) hgw).trans (HB.out.cell (p := ⟨g, k * 5 + 2, none⟩) hgl)).trans ((hq (k * 5 + 2) (by omega)).trans rfl)
          have x3 : wr.cell? ⟨g, k * 5 + 3, none⟩ = some (.int .i64 mk) := ((hb2.cell (p := ⟨g, k * 5 + 3, none⟩) hgw).trans (HB.out.cell (p := ⟨g, k * 5 + 3, none⟩) hgl)).trans ((hq (k * 5 + 3) (by omega)).trans rfl)
          have x4 : wr.cell? ⟨g, k * 5 + 4, none⟩ = some (.int .i64 mk) := ((hb2.cell (p := ⟨g, k * 5 + 4, none⟩) hgw).trans (HB.out.cell (p := ⟨g, k * 5 + 4, none⟩) hgl)).trans ((hq (k * 5 + 4) (by omega)).trans rfl)
          have hgr : g < wr.heap.size := by omega
          have hwlr : Wb < wr.heap.size := by omega
          have hg1r : g1 < wr.heap.size := by omega
          have hg2r : g2 < wr.heap.size := by omega
          clear hq hb2
          go_wp2_with fail
          try go_quiet (fail)
          try go_wp2
          go_roundw
          case rel => exact ⟨k + 1, by omega, by go_num, (by first | exact HB2.out | exact below_drewM HB2.out _ | exact below_drewM (HB2.out.trans ((below_alloc1 _ _).mono HB2.out.size)) _ | exact HB2.out.trans ((below_alloc1 _ _).mono HB2.out.size))⟩
          case measure => simp [intOf]; omega
        · obtain rfl : k = len := by omega
          have HB3 : Hid (Below w.heap.size w wr) := HB.out.trans (hb2.mono HB.out.size)
          clear hb2
          go_wp2
          go_roundw
          case rel => exact ⟨i + 1, by omega, by go_num, (by first | exact HB3.out | exact below_drewM HB3.out _)⟩
          case measure => simp [intOf]; omega
    · obtain rfl : i = (C 1).length := by omega
      obtain ⟨ao1, c1, hv1⟩ := hmr.shape (i := 1) (by omega)
      rw [hv1] at a1
      clear hmr hb hv1 hlt hi
      generalize (C 1).length = cl at *
      go_wp2_with fail
      have HBX : Hid (Below w.heap.size w wo) := HB.out
      clear HB hl1 a1 hwl
      go_loopw [7] (fun iv wr => ∃ i : Nat, i ≤ (C 3).length ∧ iv = .int .i64 i ∧ Below w.heap.size w wr) (fun iv _ => (C 3).length - (intOf iv).toNat)
      case atStart => exact ⟨0, Nat.zero_le _, rfl, HBX.out⟩
      case round =>
        obtain ⟨wo, hwo⟩ : ∃ x, x = wr := ⟨_, rfl⟩
        subst hwo
        obtain ⟨i, hi, rfl, hb⟩ := hrel
        have hl3 := HC.out 3 (by omega)
        have HB : Hid (Below w.heap.size w wo) := hb
        have hmr := HM.out.below hb
        have a1 := hmr.cellW (i := 3) (by omega)
        have hwl := hmr.row.lt
        by_cases hlt : i < (C 3).length
        · obtain ⟨v, hv⟩ : ∃ v, (C 3)[i]? = some v := ⟨_, List.getElem?_eq_getElem hlt⟩
          obtain ⟨g1, c1, hv1, hg1, hc1⟩ := hmr.elem (by omega) hv
          obtain ⟨mk, hmk, ao, len, cap, hve, hlen, hel⟩ := HE.out.ie i v hv
          subst hve
          rw [hv1] at a1
          obtain ⟨g2, c2, hv2, hg2, hc2⟩ := hmr.elem (i := 4) (by omega) hmk
          have a2 := hmr.cellW (i := 4) (by omega)
          rw [hv2] at a2
          have hll := HE.out.ilen
          rw [← hll] at a2
          have hd : ((mk : Int) != mk) = false := by simp
          have HEL : Hid (1 ≤ len → ∃ g, ao = some ⟨g, 0, none⟩ ∧ g < w.heap.size ∧ ∀ q, q < len * 1 → w.cell? ⟨g, q, none⟩ = some (.int .i64 mk)) := by
            intro h1
            obtain ⟨g, e1, _, ⟨_, _, hr⟩, hq⟩ := hel h1
            exact ⟨g, e1, hr.lt, hq⟩
          clear hmr hb hel hv hv1 hmk hv2 hll
          generalize (C 3).length = cl at *
          go_wp2_with fail
          go_loopw [8] (fun kv wr => ∃ k : Nat, k ≤ len ∧ kv = .int .i64 k ∧ Below wo.heap.size wo wr) (fun kv _ => len - (intOf kv).toNat)
          case atStart => exact ⟨0, Nat.zero_le _, rfl, Below.refl _ _⟩
          case round =>
            obtain ⟨k, hk, rfl, hb2⟩ := hrel
            have HB2 : Hid (Below wo.heap.size wo wr) := hb2
            have d1 : wr.cell? ⟨Wb, 3, none⟩ = some (.slice (some ⟨g1, 0, none⟩) cl c1) := (hb2.cell (p := ⟨Wb, 3, none⟩) hwl).trans a1
            have d2 : wr.cell? ⟨g1, i, none⟩ = some (.slice ao len cap) := (hb2.cell (p := ⟨g1, i, none⟩) hg1).trans hc1
            have d3 : wr.cell? ⟨Wb, 4, none⟩ = some (.slice (some ⟨g2, 0, none⟩) cl c2) := (hb2.cell (p := ⟨Wb, 4, none⟩) hwl).trans a2
            have d4 : wr.cell? ⟨g2, i, none⟩ = some (.int .i64 mk) := (hb2.cell (p := ⟨g2, i, none⟩) hg2).trans hc2
            have hsz := hb2.size
            by_cases hkl : k < len
            · obtain ⟨g, rfl, hgl, hq⟩ := HEL.out (by omega)
              have hgw : g < wo.heap.size := Nat.lt_of_lt_of_le hgl HB.out.size
              have x0 : wr.cell? ⟨g, k, none⟩ = some (.int .i64 mk) := ((hb2.cell (p := ⟨g, k, none⟩) hgw).trans (HB.out.cell (p := ⟨g, k, none⟩) hgl)).trans ((hq (k) (by omega)).trans rfl)
              have hgr : g < wr.heap.size := by omega
              have hwlr : Wb < wr.heap.size := by omega
              have hg1r : g1 < wr.heap.size := by omega
              have hg2r : g2 < wr.heap.size := by omega
              clear hq hb2
              go_wp2_with fail
              try go_quiet (fail)
              try go_wp2
              go_roundw
              case rel => exact ⟨k + 1, by omega, by go_num, (by first | exact HB2.out | exact below_drewM HB2.out _ | exact below_drewM (HB2.out.trans ((below_alloc1 _ _).mono HB2.out.size)) _ | exact HB2.out.trans ((below_alloc1 _ _).mono HB2.out.size))⟩
              case measure => simp [intOf]; omega
            · obtain rfl : k = len := by omega
              have HB3 : Hid (Below w.heap.size w wr) := HB.out.trans (hb2.mono HB.out.size)
              clear hb2
              go_wp2
              go_roundw
              case rel => exact ⟨i + 1, by omega, by go_num, (by first | exact HB3.out | exact below_drewM HB3.out _)⟩
              case measure => simp [intOf]; omega
        · obtain rfl : i = (C 3).length := by omega
          obtain ⟨ao1, c1, hv1⟩ := hmr.shape (i := 3) (by omega)
          rw [hv1] at a1
          clear hmr hb hv1 hlt hi
          generalize (C 3).length = cl at *
          go_wp2_with fail
          have HBX : Hid (Below w.heap.size w wo) := HB.out
          clear HB hl3 a1 hwl
          go_loopw [9] (fun iv wr => ∃ i : Nat, i ≤ (C 5).length ∧ iv = .int .i64 i ∧ Below w.heap.size w wr) (fun iv _ => (C 5).length - (intOf iv).toNat)
          case atStart => exact ⟨0, Nat.zero_le _, rfl, HBX.out⟩
          case round =>
            obtain ⟨wo, hwo⟩ : ∃ x, x = wr := ⟨_, rfl⟩
            subst hwo
            obtain ⟨i, hi, rfl, hb⟩ := hrel
            have hl5 := HC.out 5 (by omega)
            have HB : Hid (Below w.heap.size w wo) := hb
            have hmr := HM.out.below hb
            have a1 := hmr.cellW (i := 5) (by omega)
            have hwl := hmr.row.lt
            by_cases hlt : i < (C 5).length
            · obtain ⟨v, hv⟩ : ∃ v, (C 5)[i]? = some v := ⟨_, List.getElem?_eq_getElem hlt⟩
              obtain ⟨g1, c1, hv1, hg1, hc1⟩ := hmr.elem (by omega) hv
              obtain ⟨ao, len, cap, hve, hlen, hel⟩ := HE.out.te v (List.mem_of_getElem? hv)
              subst hve
              rw [hv1] at a1
              have HEL : Hid (1 ≤ len → ∃ g, ao = some ⟨g, 0, none⟩ ∧ g < w.heap.size ∧ ∀ q, q < len * 1 → w.cell? ⟨g, q, none⟩ = some (.int .i64 (-7))) := by
                intro h1
                obtain ⟨g, e1, _, ⟨_, _, hr⟩, hq⟩ := hel h1
                exact ⟨g, e1, hr.lt, hq⟩
              clear hmr hb hel hv hv1
              generalize (C 5).length = cl at *
              go_wp2_with fail
              go_loopw [10] (fun kv wr => ∃ k : Nat, k ≤ len ∧ kv = .int .i64 k ∧ Below wo.heap.size wo wr) (fun kv _ => len - (intOf kv).toNat)
              case atStart => exact ⟨0, Nat.zero_le _, rfl, Below.refl _ _⟩
              case round =>
                obtain ⟨k, hk, rfl, hb2⟩ := hrel
                have HB2 : Hid (Below wo.heap.size wo wr) := hb2
                have d1 : wr.cell? ⟨Wb, 5, none⟩ = some (.slice (some ⟨g1, 0, none⟩) cl c1) := (hb2.cell (p := ⟨Wb, 5, none⟩) hwl).trans a1
                have d2 : wr.cell? ⟨g1, i, none⟩ = some (.slice ao len cap) := (hb2.cell (p := ⟨g1, i, none⟩) hg1).trans hc1
                have hsz := hb2.size
                by_cases hkl : k < len
                · obtain ⟨g, rfl, hgl, hq⟩ := HEL.out (by omega)
                  have hgw : g < wo.heap.size := Nat.lt_of_lt_of_le hgl HB.out.size
                  have x0 : wr.cell? ⟨g, k, none⟩ = some (.int .i64 (-7)) := ((hb2.cell (p := ⟨g, k, none⟩) hgw).trans (HB.out.cell (p := ⟨g, k, none⟩) hgl)).trans ((hq (k) (by omega)).trans rfl)
                  have hgr : g < wr.heap.size := by omega
                  have hwlr : Wb < wr.heap.size := by omega
                  have hg1r : g1 < wr.heap.size := by omega
                  clear hq hb2
                  go_wp2_with fail
                  try go_quiet (fail)
                  try go_wp2
                  go_roundw
                  case rel => exact ⟨k + 1, by omega, by go_num, (by first | exact HB2.out | exact below_drewM HB2.out _ | exact below_drewM (HB2.out.trans ((below_alloc1 _ _).mono HB2.out.size)) _ | exact HB2.out.trans ((below_alloc1 _ _).mono HB2.out.size))⟩
                  case measure => simp [intOf]; omega
                · obtain rfl : k = len := by omega
                  have HB3 : Hid (Below w.heap.size w wr) := HB.out.trans (hb2.mono HB.out.size)
                  clear hb2
                  go_wp2
                  go_roundw
                  case rel => exact ⟨i + 1, by omega, by go_num, (by first | exact HB3.out | exact below_drewM HB3.out _)⟩
                  case measure => simp [intOf]; omega
            · obtain rfl : i = (C 5).length := by omega
              obtain ⟨ao1, c1, hv1⟩ := hmr.shape (i := 5) (by omega)
              rw [hv1] at a1
              clear hmr hb hv1 hlt hi
              generalize (C 5).length = cl at *
              go_wp2_with fail
              have HBX : Hid (Below w.heap.size w wo) := HB.out
              clear HB hl5 a1 hwl
              go_loopw [11] (fun iv wr => ∃ i : Nat, i ≤ (C 6).length ∧ iv = .int .i64 i ∧ Below w.heap.size w wr) (fun iv _ => (C 6).length - (intOf iv).toNat)
              case atStart => exact ⟨0, Nat.zero_le _, rfl, HBX.out⟩
              case round =>
                obtain ⟨wo, hwo⟩ : ∃ x, x = wr := ⟨_, rfl⟩
                subst hwo
                obtain ⟨i, hi, rfl, hb⟩ := hrel
                have hl6 := HC.out 6 (by omega)
                have HB : Hid (Below w.heap.size w wo) := hb
                have hmr := HM.out.below hb
                have a1 := hmr.cellW (i := 6) (by omega)
                have hwl := hmr.row.lt
                by_cases hlt : i < (C 6).length
                · obtain ⟨v, hv⟩ : ∃ v, (C 6)[i]? = some v := ⟨_, List.getElem?_eq_getElem hlt⟩
                  obtain ⟨g1, c1, hv1, hg1, hc1⟩ := hmr.elem (by omega) hv
                  obtain ⟨ao, len, cap, hve, hlen, hel⟩ := HE.out.pe v (List.mem_of_getElem? hv)
                  subst hve
                  rw [hv1] at a1
                  have HEL : Hid (1 ≤ len → ∃ g, ao = some ⟨g, 0, none⟩ ∧ g < w.heap.size ∧ ∀ q, q < len * 2 → w.cell? ⟨g, q, none⟩ = some (.int .i64 (-7))) := by
                    intro h1
                    obtain ⟨g, e1, _, ⟨_, _, hr⟩, hq⟩ := hel h1
                    exact ⟨g, e1, hr.lt, hq⟩
                  clear hmr hb hel hv hv1
                  generalize (C 6).length = cl at *
                  go_wp2_with fail
                  go_loopw [12] (fun kv wr => ∃ k : Nat, k ≤ len ∧ kv = .int .i64 k ∧ Below wo.heap.size wo wr) (fun kv _ => len - (intOf kv).toNat)
                  case atStart => exact ⟨0, Nat.zero_le _, rfl, Below.refl _ _⟩
                  case round =>
                    obtain ⟨k, hk, rfl, hb2⟩ := hrel
                    have HB2 : Hid (Below wo.heap.size wo wr) := hb2
                    have d1 : wr.cell? ⟨Wb, 6, none⟩ = some (.slice (some ⟨g1, 0, none⟩) cl c1) := (hb2.cell (p := ⟨Wb, 6, none⟩) hwl).trans a1
                    have d2 : wr.cell? ⟨g1, i, none⟩ = some (.slice ao len cap) := (hb2.cell (p := ⟨g1, i, none⟩) hg1).trans hc1
                    have hsz := hb2.size
                    by_cases hkl : k < len
                    · obtain ⟨g, rfl, hgl, hq⟩ := HEL.out (by omega)
                      have hgw : g < wo.heap.size := Nat.lt_of_lt_of_le hgl HB.out.size
                      have x0 : wr.cell? ⟨g, k * 2, none⟩ = some (.int .i64 (-7)) := ((hb2.cell (p := ⟨g, k * 2, none⟩) hgw).trans (HB.out.cell (p := ⟨g, k * 2, none⟩) hgl)).trans ((hq (k * 2) (by omega)).trans rfl)
                      have x1 : wr.cell? ⟨g, k * 2 + 1, none⟩ = some (.int .i64 (-7)) := ((hb2.cell (p := ⟨g, k * 2 + 1, none⟩) hgw).trans (HB.out.cell (p := ⟨g, k * 2 + 1, none⟩) hgl)).trans ((hq (k * 2 + 1) (by omega)).trans rfl)
                      have hgr : g < wr.heap.size := by omega
                      have hwlr : Wb < wr.heap.size := by omega
                      have hg1r : g1 < wr.heap.size := by omega
                      clear hq hb2
                      go_wp2_with fail
                      try go_quiet (fail)
                      try go_wp2
                      go_roundw
                      case rel => exact ⟨k + 1, by omega, by go_num, (by first | exact HB2.out | exact below_drewM HB2.out _ | exact below_drewM (HB2.out.trans ((below_alloc1 _ _).mono HB2.out.size)) _ | exact HB2.out.trans ((below_alloc1 _ _).mono HB2.out.size))⟩
                      case measure => simp [intOf]; omega
                    · obtain rfl : k = len := by omega
                      have HB3 : Hid (Below w.heap.size w wr) := HB.out.trans (hb2.mono HB.out.size)
                      clear hb2
                      go_wp2
                      go_roundw
                      case rel => exact ⟨i + 1, by omega, by go_num, (by first | exact HB3.out | exact below_drewM HB3.out _)⟩
                      case measure => simp [intOf]; omega
                · obtain rfl : i = (C 6).length := by omega
                  obtain ⟨ao1, c1, hv1⟩ := hmr.shape (i := 6) (by omega)
                  rw [hv1] at a1
                  clear hmr hb hv1 hlt hi
                  generalize (C 6).length = cl at *
                  go_wp2_with fail
                  have HBX : Hid (Below w.heap.size w wo) := HB.out
                  clear HB hl6 a1 hwl
                  go_loopw [13] (fun iv wr => ∃ i : Nat, i ≤ (C 7).length ∧ iv = .int .i64 i ∧ Below w.heap.size w wr) (fun iv _ => (C 7).length - (intOf iv).toNat)
                  case atStart => exact ⟨0, Nat.zero_le _, rfl, HBX.out⟩
                  case round =>
                    obtain ⟨wo, hwo⟩ : ∃ x, x = wr := ⟨_, rfl⟩
                    subst hwo
                    obtain ⟨i, hi, rfl, hb⟩ := hrel
                    have hl7 := HC.out 7 (by omega)
                    have HB : Hid (Below w.heap.size w wo) := hb
                    have hmr := HM.out.below hb
                    have a1 := hmr.cellW (i := 7) (by omega)
                    have hwl := hmr.row.lt
                    by_cases hlt : i < (C 7).length
                    · obtain ⟨v, hv⟩ : ∃ v, (C 7)[i]? = some v := ⟨_, List.getElem?_eq_getElem hlt⟩
                      obtain ⟨g1, c1, hv1, hg1, hc1⟩ := hmr.elem (by omega) hv
                      obtain ⟨ao, len, cap, hve, hlen, hel⟩ := HE.out.ke v (List.mem_of_getElem? hv)
                      subst hve
                      rw [hv1] at a1
                      have HEL : Hid (1 ≤ len → ∃ g, ao = some ⟨g, 0, none⟩ ∧ g < w.heap.size ∧ ∀ q, q < len * 4 → w.cell? ⟨g, q, none⟩ = some (nz q)) := by
                        intro h1
                        obtain ⟨g, e1, _, ⟨_, _, hr⟩, hq⟩ := hel h1
                        exact ⟨g, e1, hr.lt, hq⟩
                      clear hmr hb hel hv hv1
                      generalize (C 7).length = cl at *
                      go_wp2_with fail
                      go_loopw [14] (fun kv wr => ∃ k : Nat, k ≤ len ∧ kv = .int .i64 k ∧ Below wo.heap.size wo wr) (fun kv _ => len - (intOf kv).toNat)
                      case atStart => exact ⟨0, Nat.zero_le _, rfl, Below.refl _ _⟩
                      case round =>
                        obtain ⟨k, hk, rfl, hb2⟩ := hrel
                        have HB2 : Hid (Below wo.heap.size wo wr) := hb2
                        have d1 : wr.cell? ⟨Wb, 7, none⟩ = some (.slice (some ⟨g1, 0, none⟩) cl c1) := (hb2.cell (p := ⟨Wb, 7, none⟩) hwl).trans a1
                        have d2 : wr.cell? ⟨g1, i, none⟩ = some (.slice ao len cap) := (hb2.cell (p := ⟨g1, i, none⟩) hg1).trans hc1
                        have hsz := hb2.size
                        by_cases hkl : k < len
                        · obtain ⟨g, rfl, hgl, hq⟩ := HEL.out (by omega)
                          have hgw : g < wo.heap.size := Nat.lt_of_lt_of_le hgl HB.out.size
                          have x0 : wr.cell? ⟨g, k * 4, none⟩ = some (.int .i64 (-7)) := ((hb2.cell (p := ⟨g, k * 4, none⟩) hgw).trans (HB.out.cell (p := ⟨g, k * 4, none⟩) hgl)).trans ((hq (k * 4) (by omega)).trans (by unfold nz zf; rw [if_pos (by omega)]))
                          have x1 : wr.cell? ⟨g, k * 4 + 1, none⟩ = some (.int .i64 0) := ((hb2.cell (p := ⟨g, k * 4 + 1, none⟩) hgw).trans (HB.out.cell (p := ⟨g, k * 4 + 1, none⟩) hgl)).trans ((hq (k * 4 + 1) (by omega)).trans (by unfold nz zf; rw [if_neg (by omega), if_neg (by omega)]))
                          have x2 : wr.cell? ⟨g, k * 4 + 2, none⟩ = some (.int .i64 0) := ((hb2.cell (p := ⟨g, k * 4 + 2, none⟩) hgw).trans (HB.out.cell (p := ⟨g, k * 4 + 2, none⟩) hgl)).trans ((hq (k * 4 + 2) (by omega)).trans (by unfold nz zf; rw [if_neg (by omega), if_neg (by omega)]))
                          have x3 : wr.cell? ⟨g, k * 4 + 3, none⟩ = some (.slice none 0 0) := ((hb2.cell (p := ⟨g, k * 4 + 3, none⟩) hgw).trans (HB.out.cell (p := ⟨g, k * 4 + 3, none⟩) hgl)).trans ((hq (k * 4 + 3) (by omega)).trans (by unfold nz zf; rw [if_neg (by omega), if_pos (by omega)]))
                          have hgr : g < wr.heap.size := by omega
                          have hwlr : Wb < wr.heap.size := by omega
                          have hg1r : g1 < wr.heap.size := by omega
                          clear hq hb2
                          go_wp2_with fail
                          try go_quiet (fail)
                          try go_wp2
                          go_roundw
                          case rel => exact ⟨k + 1, by omega, by go_num, (by first | exact HB2.out | exact below_drewM HB2.out _ | exact below_drewM (HB2.out.trans ((below_alloc1 _ _).mono HB2.out.size)) _ | exact HB2.out.trans ((below_alloc1 _ _).mono HB2.out.size))⟩
                          case measure => simp [intOf]; omega
                        · obtain rfl : k = len := by omega
                          have HB3 : Hid (Below w.heap.size w wr) := HB.out.trans (hb2.mono HB.out.size)
                          clear hb2
                          go_wp2
                          go_roundw
                          case rel => exact ⟨i + 1, by omega, by go_num, (by first | exact HB3.out | exact below_drewM HB3.out _)⟩
                          case measure => simp [intOf]; omega
                    · obtain rfl : i = (C 7).length := by omega
                      obtain ⟨ao1, c1, hv1⟩ := hmr.shape (i := 7) (by omega)
                      rw [hv1] at a1
                      clear hmr hb hv1 hlt hi
                      generalize (C 7).length = cl at *
                      go_wp2
                      go_ret
                      exact ⟨rfl, by first | exact HB.out | exact below_drewM HB.out _⟩

end Go.Proofs.YtdabcflpcklfiaaGreat
