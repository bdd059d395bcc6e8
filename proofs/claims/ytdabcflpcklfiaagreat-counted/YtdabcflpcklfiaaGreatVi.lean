import Derived.Test.YtdabcflpcklfiaaGreatVh
/- What the law reads: the first run, whether a resource is free, since when a section is held. -/
namespace Go.Proofs.YtdabcflpcklfiaaGreat
open Go.RowKit Cad

/-- The first run of a task, if it is ready. -/
def fstP (u : Wt) (dn : Nat → Nat) (Y : WL) (t : Nat) : Option Addr := match u.runs t with
  | [] => none
  | x :: _ => if x.ready ≤ u.now then some ⟨Y.jb t (dn t), 0, none⟩ else none

theorem WAt.wc {w : World} {B n kb : Nat} {tv pv : Value} {u : Wt} {dn : Nat → Nat} {Y : WL} (h : WAt w B n kb tv pv u dn Y) : w.cell? ⟨Y.wb, 0, none⟩ = some (.pointer (some ⟨kb, 0, none⟩)) ∧ w.cell? ⟨Y.wb, 1, none⟩ = some tv ∧ w.cell? ⟨Y.wb, 2, none⟩ = some pv ∧ w.cell? ⟨Y.wb, 3, none⟩ = some (.slice (some ⟨Y.rb, 0, none⟩) n n) ∧ w.cell? ⟨Y.wb, 4, none⟩ = some (.int .i64 u.now) ∧ w.cell? ⟨Y.wb, 5, none⟩ = some (.int .i64 u.idle) ∧ w.cell? ⟨Y.wb, 6, none⟩ = some (.int .i64 u.given) ∧ w.cell? ⟨Y.wb, 7, none⟩ = some (.int .i64 u.asked) :=
  ⟨h.wrow.cell (by omega), h.wrow.cell (by omega), h.wrow.cell (by omega), h.wrow.cell (by omega), h.wrow.cell (by omega), h.wrow.cell (by omega), h.wrow.cell (by omega), h.wrow.cell (by omega)⟩

/-- Where a task's pointers lie. -/
theorem WAt.ptr {w : World} {B n kb : Nat} {tv pv : Value} {u : Wt} {dn : Nat → Nat} {Y : WL} (h : WAt w B n kb tv pv u dn Y) {t : Nat} (ht : t < n) (h1 : 0 < (u.runs t).length) : ∃ g off cap, Y.sv t = .slice (some ⟨g, off, none⟩) (u.runs t).length cap ∧ g < w.heap.size ∧ ∀ i, i < (u.runs t).length → w.cell? ⟨g, off + i, none⟩ = some (.pointer (some ⟨Y.jb t (dn t + i), 0, none⟩)) := by
  have hs := h.srow t ht
  rcases hs with ⟨_, g⟩ | ⟨g, off, cap, sz, f, hv, hg, hr, h3, h4, h5⟩
  · have := ptrs_len Y t (dn t) (u.runs t).length
    rw [g] at this
    simp at this
    omega
  · rw [ptrs_len] at hv h4
    exact ⟨g, off, cap, hv, hr.lt, fun i hi => by rw [hr.cell (by omega), h5 i _ (ptrs_get Y t (dn t) hi)]⟩

theorem WAt.empty {w : World} {B n kb : Nat} {tv pv : Value} {u : Wt} {dn : Nat → Nat} {Y : WL} (h : WAt w B n kb tv pv u dn Y) {t : Nat} (ht : t < n) : ∃ ao cap, Y.sv t = .slice ao (u.runs t).length cap := by
  obtain ⟨ao, cap, e⟩ := (h.srow t ht).shape
  rw [ptrs_len] at e
  exact ⟨ao, cap, e⟩

set_option maxRecDepth 100000 in
set_option maxHeartbeats 1000000 in
theorem first_run {B n kb : Nat} {tv pv : Value} {u : Wt} {dn : Nat → Nat} {Y : WL} {w : World} (h : WAt w B n kb tv pv u dn Y) (_hn : n ≤ 8) {t : Nat} (ht : t < n) (hl8 : (u.runs t).length ≤ 8) :
    Calls Tryz.prog 29 #[.pointer (some ⟨Y.wb, 0, none⟩), .int .i64 t] w fun e w' => e = .returned (.pointer (fstP u dn Y t)) ∧ Below w.heap.size w w' := by
  obtain ⟨_, _, _, c3, c4, _⟩ := h.wc
  have hwl := h.wrow.lt
  have hrl := h.rrow.lt
  have r0 : w.cell? ⟨Y.rb, t, none⟩ = some (Y.sv t) := h.rrow.cell ht
  cases hr : u.runs t with
  | nil =>
    obtain ⟨ao, cap, hv⟩ := h.empty ht
    rw [hr] at hv
    have HF : Hid (fstP u dn Y t = none) := by unfold Hid fstP; rw [hr]
    rw [hv] at r0
    clear h hv hr hl8
    go_enter Tryz.func29, Tryz.ntmps29
    go_wp2_with fail
    go_quiet (fail)
    go_wp2
    go_ret
    exact ⟨by rw [HF.out]; rfl, below_drewM (Below.refl _ _) _⟩
  | cons x l =>
    obtain ⟨g, off, cap, hv, hgl, hp⟩ := h.ptr ht (by rw [hr]; simp)
    have p0 := hp 0 (by rw [hr]; simp)
    simp only [Nat.add_zero] at p0
    have hj := h.jrow t ht 0 x (by rw [hr]; rfl)
    simp only [Nat.add_zero] at hj
    have j1 : w.cell? ⟨Y.jb t (dn t), 1, none⟩ = some (.int .i64 x.ready) := hj.cell (by omega)
    have hjl := hj.lt
    rw [hv] at r0
    generalize hlen : (u.runs t).length = len at *
    have hlen1 : 1 ≤ len := by rw [← hlen, hr]; simp
    have hlz : ((len : Int) == 0) = false := by simp; omega
    by_cases hrd : x.ready ≤ u.now
    · have bd : decide (u.now < x.ready) = false := decide_eq_false (by omega)
      have HF : Hid (fstP u dn Y t = some ⟨Y.jb t (dn t), 0, none⟩) := by unfold Hid fstP; rw [hr]; exact if_pos hrd
      clear h hv hr hj hp hlen
      go_enter Tryz.func29, Tryz.ntmps29
      go_wp2_with fail
      go_quiet (fail)
      go_wp2
      go_ret
      exact ⟨by rw [HF.out]; rfl, below_drewM (Below.refl _ _) _⟩
    · have bd : decide (u.now < x.ready) = true := decide_eq_true (by omega)
      have HF : Hid (fstP u dn Y t = none) := by unfold Hid fstP; rw [hr]; exact if_neg hrd
      clear h hv hr hj hp hlen
      go_enter Tryz.func29, Tryz.ntmps29
      go_wp2_with fail
      go_quiet (fail)
      go_wp2
      go_ret
      exact ⟨by rw [HF.out]; rfl, below_drewM (Below.refl _ _) _⟩


theorem ints_get {l : List Int} {i : Nat} (h : i < l.length) : (ints l)[i]? = some (.int .i64 (l.getD i 0)) := by
  simp [ints, h]

theorem ints_len (l : List Int) : (ints l).length = l.length := by simp [ints]

set_option maxRecDepth 100000 in
set_option maxHeartbeats 2000000 in
theorem free_any {B n kb : Nat} {tv pv : Value} {u : Wt} {dn : Nat → Nat} {Y : WL} {w : World} (h : WAt w B n kb tv pv u dn Y) (hn : n ≤ 8) (hl8 : ∀ t, t < n → (u.runs t).length ≤ 9) (hh : ∀ t, t < n → ∀ x ∈ u.runs t, x.held.length ≤ 16) (r : Int) (hf : ∀ t, t < n → ∀ x ∈ u.runs t, r ∉ x.held) :
    Calls Tryz.prog 55 #[.pointer (some ⟨Y.wb, 0, none⟩), .int .i64 r] w fun e w' => e = .returned (.bool true) ∧ Below w.heap.size w w' := by
  have HA : Hid (WAt w B n kb tv pv u dn Y) := h
  have HF : Hid (∀ t, t < n → ∀ x ∈ u.runs t, r ∉ x.held) := hf
  have HL : Hid (∀ t, t < n → (u.runs t).length ≤ 9) := hl8
  have HH : Hid (∀ t, t < n → ∀ x ∈ u.runs t, x.held.length ≤ 16) := hh
  have hwl := h.wrow.lt
  have hrl := h.rrow.lt
  clear h hf hl8 hh
  go_enter Tryz.func55, Tryz.ntmps55
  go_wp2_with fail
  go_loopw [5] (fun tv wr => ∃ t : Nat, t ≤ n ∧ tv = .int .i64 t ∧ Below w.heap.size w wr) (fun tv _ => n - (intOf tv).toNat)
  case atStart => exact ⟨0, Nat.zero_le _, rfl, Below.refl _ _⟩
  case round =>
    obtain ⟨t, ht, rfl, hbel⟩ := hrel
    have HB : Hid (Below w.heap.size w wr) := hbel
    obtain ⟨_, _, _, c3, c4, _⟩ := (HA.out.below hbel).wc
    have hsz := hbel.size
    clear hbel
    by_cases hlt : t < n
    · clear c4
      go_wp2_with fail
      clear c3
      go_loopw [6] (fun iv wr => ∃ i : Nat, i ≤ (u.runs t).length ∧ iv = .int .i64 i ∧ Below w.heap.size w wr) (fun iv _ => (u.runs t).length - (intOf iv).toNat)
      case atStart => exact ⟨0, Nat.zero_le _, rfl, HB.out⟩
      case round =>
        clear HB hsz
        obtain ⟨i, hi, rfl, hbel⟩ := hrel
        have HB : Hid (Below w.heap.size w wr) := hbel
        have HAr := HA.out.below hbel
        obtain ⟨_, _, _, c3, c4, _⟩ := HAr.wc
        have hsz := hbel.size
        have r0 : wr.cell? ⟨Y.rb, t, none⟩ = some (Y.sv t) := HAr.rrow.cell hlt
        have hl9 := HL.out t hlt
        clear hbel c4
        by_cases hil : i < (u.runs t).length
        · obtain ⟨g, off, cap, hv, hgl, hp⟩ := HAr.ptr hlt (by omega)
          obtain ⟨x, hx⟩ : ∃ x, (u.runs t)[i]? = some x := ⟨_, List.getElem?_eq_getElem hil⟩
          rw [hv] at r0
          generalize hlen : (u.runs t).length = len at *
          clear HAr hp
          go_wp2_with fail
          clear c3 r0
          have hxh := HH.out t hlt x (List.mem_of_getElem? hx)
          go_loopw [7] (fun kv wr => ∃ k : Nat, k ≤ x.held.length ∧ kv = .int .i64 k ∧ Below w.heap.size w wr) (fun kv _ => x.held.length - (intOf kv).toNat)
          case atStart => exact ⟨0, Nat.zero_le _, rfl, HB.out⟩
          case round =>
            clear HB hsz
            obtain ⟨k, hk, rfl, hbel⟩ := hrel
            have HB : Hid (Below w.heap.size w wr) := hbel
            have HAr := HA.out.below hbel
            obtain ⟨_, _, _, c3, c4, _⟩ := HAr.wc
            have hsz := hbel.size
            have r0 : wr.cell? ⟨Y.rb, t, none⟩ = some (Y.sv t) := HAr.rrow.cell hlt
            have hp := (HAr.ptr hlt (by omega))
            obtain ⟨g', off', cap', hv', hgl', hp'⟩ := hp
            rw [hv] at hv'
            cases hv'
            have p0 := hp' i (by omega)
            have hj := HAr.jrow t hlt i x hx
            have j4 : wr.cell? ⟨Y.jb t (dn t + i), 4, none⟩ = some (Y.V 1 t (dn t + i)) := hj.cell (by omega)
            have hjl := hj.lt
            have hsl := HAr.irow t hlt i x hx 1 (by omega)
            have hne := HF.out t hlt x (List.mem_of_getElem? hx)
            rw [hv] at r0
            clear hbel c4 hp' HAr hj
            have hls : lst x 1 = x.held := rfl
            rw [hls] at hsl
            by_cases hkl : k < x.held.length
            · obtain ⟨ao, hcap, hvs⟩ := hsl.shape
              rw [ints_len] at hvs
              have hsc : ∃ gg oo, ao = some ⟨gg, oo, none⟩ ∧ gg < wr.heap.size ∧ wr.cell? ⟨gg, oo + k, none⟩ = some (.int .i64 (x.held.getD k 0)) := by
                rw [hvs] at hsl
                rcases hsl with ⟨e, e2⟩ | ⟨gg, oo, cc, sz, f, e, _, hr, h3, h4, h5⟩
                · have := ints_len x.held; rw [e2] at this; simp at this; omega
                · rw [ints_len] at e h4
                  cases e
                  exact ⟨gg, oo, rfl, hr.lt, by rw [hr.cell (by omega), h5 k _ (ints_get hkl)]⟩
              obtain ⟨gg, oo, rfl, hggl, y0⟩ := hsc
              rw [hvs] at j4
              have hq : ((x.held.getD k 0) == r) = false := by
                rw [beq_eq_false_iff_ne]
                intro e
                refine hne ?_
                rw [← e]
                simp only [List.getD_eq_getElem?_getD, List.getElem?_eq_getElem hkl, Option.getD_some]
                exact List.getElem_mem hkl
              clear hsl hvs hv
              generalize x.held.getD k 0 = hk0 at *
              generalize hxl : x.held.length = xl at *
              go_wp2
              go_roundw
              case rel => exact ⟨k + 1, by omega, by go_num, HB.out⟩
              case measure => simp [intOf]; omega
            · obtain rfl : k = x.held.length := by omega
              obtain ⟨ao, hcap, hvs⟩ := hsl.shape
              rw [ints_len] at hvs
              rw [hvs] at j4
              clear hsl hvs hv
              generalize hxl : x.held.length = xl at *
              go_wp2
              go_roundw
              case rel => exact ⟨i + 1, by omega, by go_num, HB.out⟩
              case measure => simp [intOf]; omega
        · obtain ⟨ao, cap, hv⟩ := HAr.empty hlt
          rw [hv] at r0
          obtain rfl : i = (u.runs t).length := by omega
          clear HAr hv
          generalize hlen : (u.runs t).length = len at *
          go_wp2
          go_roundw
          case rel => exact ⟨t + 1, by omega, by go_num, HB.out⟩
          case measure => simp [intOf]; omega
    · obtain rfl : t = n := by omega
      go_wp2
      go_ret
      exact ⟨rfl, HB.out⟩

end Go.Proofs.YtdabcflpcklfiaaGreat
