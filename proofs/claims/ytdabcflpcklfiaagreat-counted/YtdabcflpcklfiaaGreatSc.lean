import Derived.Test.YtdabcflpcklfiaaGreatSb
import Derived.Shelf.SlSortCmp.NoneTotal
import Derived.Ground.SlsfProg
/- Two records are compared. -/
namespace Go.Proofs.YtdabcflpcklfiaaGreat
open Go.RowKit Cad

set_option maxHeartbeats 400000 in
theorem isNaN_any (x : Int) (w : World) : Calls Tryz.prog 120 #[.int .i64 x] w fun e w' => e = .returned (.bool false) ∧ w' = w := by
  have hx : (x != x) = false := by simp
  go_enter Tryz.func120, Tryz.ntmps120
  go_wp2
  go_ret
  exact ⟨rfl, rfl⟩

def cmpI (x y : Int) : Int := if x < y then -1 else if y < x then 1 else 0

set_option maxHeartbeats 400000 in
theorem compare_any (x y : Int) (w : World) : Calls Tryz.prog 91 #[.int .i64 x, .int .i64 y] w fun e w' => e = .returned (.int .i64 (cmpI x y)) ∧ w' = w := by
  by_cases h1 : x < y
  · have b1 : decide (x < y) = true := by simpa using h1
    have HE : Hid (cmpI x y = -1) := by unfold Hid cmpI; rw [if_pos h1]
    go_enter Tryz.func91, Tryz.ntmps91
    go_wp2_with (go_at_call 120; refine (isNaN_any _ _).mono ?_; rintro e w' ⟨rfl, rfl⟩)
    go_ret
    exact ⟨by rw [HE.out]; rfl, rfl⟩
  · have b1 : decide (x < y) = false := by simpa using h1
    by_cases h2 : y < x
    · have b2 : decide (y < x) = true := by simpa using h2
      have HE : Hid (cmpI x y = 1) := by unfold Hid cmpI; rw [if_neg h1, if_pos h2]
      go_enter Tryz.func91, Tryz.ntmps91
      go_wp2_with (go_at_call 120; refine (isNaN_any _ _).mono ?_; rintro e w' ⟨rfl, rfl⟩)
      go_ret
      exact ⟨by rw [HE.out]; rfl, rfl⟩
    · have b2 : decide (y < x) = false := by simpa using h2
      have HE : Hid (cmpI x y = 0) := by unfold Hid cmpI; rw [if_neg h1, if_neg h2]
      go_enter Tryz.func91, Tryz.ntmps91
      go_wp2_with (go_at_call 120; refine (isNaN_any _ _).mono ?_; rintro e w' ⟨rfl, rfl⟩)
      go_ret
      exact ⟨by rw [HE.out]; rfl, rfl⟩

def Tryz.sortL_ren : Go.Shelf.Ren := ⟨fun | 6 => 89 | 15 => 119 | 14 => 118 | 28 => 144 | 29 => 145 | 20 => 136 | 21 => 137 | 22 => 138 | 23 => 139 | 24 => 140 | 25 => 141 | 26 => 142 | 27 => 143 | 46 => 147 | 47 => 148 | 48 => 149 | 49 => 150 | 50 => 151 | 57 => 153 | n => n, fun | 22 => 140 | 24 => 158 | 25 => 166 | 3 => 3 | 39 => 192 | 0 => 0 | 53 => 107 | 55 => 212 | 4 => 4 | 46 => 205 | 45 => 204 | 50 => 72 | 5 => 5 | 9 => 9 | 66 => 213 | 70 => 217 | 76 => 220 | 77 => 221 | n => n, fun | n => n⟩
theorem Tryz.sortL : Go.Proofs.SlLaysF0.n6 Tryz.prog Tryz.sortL_ren := {
  mixed := by kernel_rfl
  f6 := ⟨Tryz.f89.name, by decide, Tryz.func89.trans (congrArg some (by kernel_rfl))⟩
  f14 := ⟨Tryz.f118.name, by decide, Tryz.func118.trans (congrArg some (by kernel_rfl))⟩
  f15 := Tryz.func119.trans (congrArg some (by kernel_rfl))
  f20 := ⟨Tryz.f136.name, by decide, Tryz.func136.trans (congrArg some (by kernel_rfl))⟩
  f21 := ⟨Tryz.f137.name, by decide, Tryz.func137.trans (congrArg some (by kernel_rfl))⟩
  f22 := ⟨Tryz.f138.name, by decide, Tryz.func138.trans (congrArg some (by kernel_rfl))⟩
  f23 := ⟨Tryz.f139.name, by decide, Tryz.func139.trans (congrArg some (by kernel_rfl))⟩
  f24 := ⟨Tryz.f140.name, by decide, Tryz.func140.trans (congrArg some (by kernel_rfl))⟩
  f25 := ⟨Tryz.f141.name, by decide, Tryz.func141.trans (congrArg some (by kernel_rfl))⟩
  f26 := ⟨Tryz.f142.name, by decide, Tryz.func142.trans (congrArg some (by kernel_rfl))⟩
  f27 := ⟨Tryz.f143.name, by decide, Tryz.func143.trans (congrArg some (by kernel_rfl))⟩
  f28 := Tryz.func144.trans (congrArg some (by kernel_rfl))
  f29 := Tryz.func145.trans (congrArg some (by kernel_rfl))
  f46 := ⟨Tryz.f147.name, by decide, Tryz.func147.trans (congrArg some (by kernel_rfl))⟩
  f47 := Tryz.func148.trans (congrArg some (by kernel_rfl))
  f48 := Tryz.func149.trans (congrArg some (by kernel_rfl))
  f49 := ⟨Tryz.f150.name, by decide, Tryz.func150.trans (congrArg some (by kernel_rfl))⟩
  f50 := ⟨Tryz.f151.name, by decide, Tryz.func151.trans (congrArg some (by kernel_rfl))⟩
  f57 := ⟨Tryz.f153.name, by decide, Tryz.func153.trans (congrArg some (by kernel_rfl))⟩
  t0 := Tryz.underlying0
  a0 := Tryz.isAgg0
  z0 := Tryz.sizeOf0
  v0 := Tryz.zeroValue0
  t3 := Tryz.underlying3
  a3 := Tryz.isAgg3
  z3 := Tryz.sizeOf3
  v3 := Tryz.zeroValue3
  t4 := Tryz.underlying4
  a4 := Tryz.isAgg4
  z4 := Tryz.sizeOf4
  v4 := Tryz.zeroValue4
  t5 := Tryz.underlying5
  a5 := Tryz.isAgg5
  z5 := Tryz.sizeOf5
  v5 := Tryz.zeroValue5
  t9 := Tryz.underlying9
  a9 := Tryz.isAgg9
  z9 := Tryz.sizeOf9
  v9 := Tryz.zeroValue9
  t22 := Tryz.underlying140
  a22 := Tryz.isAgg140
  z22 := Tryz.sizeOf140
  v22 := Tryz.zeroValue140
  t25 := Tryz.underlying166
  a25 := Tryz.isAgg166
  z25 := Tryz.sizeOf166
  v25 := Tryz.zeroValue166
  t39 := Tryz.underlying192
  a39 := Tryz.isAgg192
  z39 := Tryz.sizeOf192
  v39 := Tryz.zeroValue192
  t45 := Tryz.underlying204
  a45 := Tryz.isAgg204
  z45 := Tryz.sizeOf204
  v45 := Tryz.zeroValue204
  t46 := Tryz.underlying205
  a46 := Tryz.isAgg205
  z46 := Tryz.sizeOf205
  v46 := Tryz.zeroValue205
  t50 := Tryz.underlying72
  a50 := Tryz.isAgg72
  z50 := Tryz.sizeOf72
  v50 := Tryz.zeroValue72
  t53 := Tryz.underlying107
  a53 := Tryz.isAgg107
  z53 := Tryz.sizeOf107
  v53 := Tryz.zeroValue107
  t55 := Tryz.underlying212
  a55 := Tryz.isAgg212
  z55 := Tryz.sizeOf212
  v55 := Tryz.zeroValue212
  t66 := Tryz.underlying213
  a66 := Tryz.isAgg213
  z66 := Tryz.sizeOf213
  v66 := Tryz.zeroValue213
  t70 := Tryz.underlying217
  a70 := Tryz.isAgg217
  z70 := Tryz.sizeOf217
  v70 := Tryz.zeroValue217
  t76 := Tryz.underlying220
  a76 := Tryz.isAgg220
  z76 := Tryz.sizeOf220
  v76 := Tryz.zeroValue220
  t77 := Tryz.underlying221
  a77 := Tryz.isAgg221
  z77 := Tryz.sizeOf221
  v77 := Tryz.zeroValue221 }

/-- How records are compared. -/
def cfR (x y : Rc) : Int := cmpI x.ord y.ord

theorem ltR (x y : Rc) : ltOf cfR x y = decide (x.ord < y.ord) := by
  unfold ltOf cfR cmpI
  by_cases h1 : x.ord < y.ord
  · simp [h1]
  · by_cases h2 : y.ord < x.ord <;> simp [h1, h2]

theorem swoR : Go.Sort.SWO (ltOf cfR) where
  irrefl x := by rw [ltR]; simp
  trans x y z h1 h2 := by rw [ltR] at *; simp at *; omega
  ntrans x y z h1 h2 := by rw [ltR] at *; simp at *; omega

set_option maxHeartbeats 1000000 in
theorem closure_any (x y : Rc) (W : World) : Calls Tryz.prog 90 #[.agg (recC x).toArray, .agg (recC y).toArray] W fun e w' => e = .returned (.int .i64 (cfR x y)) ∧ ∃ q os', w' = Go.Sort.grow (W.drewN q) os' := by
  have hcon := fun W' => compare_any x.ord y.ord W'
  show Calls Tryz.prog 90 #[.agg #[.int .i64 x.task, .int .i64 x.arr, .int .i64 x.rel, .int .i64 x.done, .int .i64 x.left, .int .i64 x.ord], .agg #[.int .i64 y.task, .int .i64 y.arr, .int .i64 y.rel, .int .i64 y.done, .int .i64 y.left, .int .i64 y.ord]] W _
  unfold cfR
  generalize cmpI x.ord y.ord = r at hcon ⊢
  go_enter Tryz.func90, Tryz.ntmps90
  go_wp2_with (go_at_call 91; refine (hcon _).mono ?_; rintro e w' ⟨rfl, rfl⟩)
  go_ret
  exact ⟨rfl, 0, _, by rw [Go.Sort.alloc_eq_grow, Go.Sort.alloc_eq_grow, Go.Sort.grow_grow]; rfl⟩

@[reducible] def rcInh : Inhabited Rc := ⟨⟨0, 0, 0, 0, 0, 0⟩⟩

theorem recC_one (x : Rc) : ∀ v ∈ recC x, v.oneCell' = true := by
  intro v hv
  simp [recC] at hv
  rcases hv with rfl | rfl | rfl | rfl | rfl | rfl <;> rfl

/-- A list's cells, flat. -/
theorem flat_kept (l : List Rc) : @Go.Sort.flatK Rc rcInh recC 6 l.toArray = (keptC l).toArray := by
  apply Array.ext_getElem?
  intro t
  by_cases ht : t < l.length * 6
  · obtain ⟨r, hr⟩ : ∃ r, l[t / 6]? = some r := ⟨_, List.getElem?_eq_getElem (by omega)⟩
    have h1 := keptC_at hr (t % 6) (by omega)
    rw [show t / 6 * 6 + t % 6 = t from by omega] at h1
    have h2 : (@Go.Sort.flatK Rc rcInh recC 6 l.toArray)[t]? = some (@Go.Sort.flatK Rc rcInh recC 6 l.toArray)[t]! := by
      rw [getElem!_pos _ t (by rw [@Go.Sort.size_flatK Rc rcInh]; exact ht)]
      exact Array.getElem?_eq_getElem _
    rw [h2, @Go.Sort.get_flatK Rc rcInh _ _ _ _ (by exact ht)]
    rw [@getElem!_pos _ _ _ _ _ _ rcInh l.toArray (t / 6) (by simp only [List.size_toArray]; omega)]
    have h3 : l.toArray[t / 6]'(by simp only [List.size_toArray]; omega) = r := by
      have := List.getElem?_eq_some_iff.1 hr
      simpa using this.2
    rw [h3, List.getElem?_toArray, h1]
    have h4 : t % 6 < 6 := by omega
    simp only [recC]
    match t % 6, h4 with
    | 0, _ => rfl
    | 1, _ => rfl
    | 2, _ => rfl
    | 3, _ => rfl
    | 4, _ => rfl
    | 5, _ => rfl
  · rw [Array.getElem?_eq_none (by rw [@Go.Sort.size_flatK Rc rcInh]; exact Nat.le_of_not_lt ht), Array.getElem?_eq_none (by simp only [List.size_toArray]; rw [keptC_len]; omega)]

theorem perm_arr {l : List Rc} {d : Array Rc} (h : @Go.Sort.PermIn Rc rcInh 0 l.toArray.size l.toArray d) : l.Perm d.toList := by
  obtain ⟨h1, _, h3⟩ := h
  have e1 : d.extract 0 l.toArray.size = d := by rw [← h1]; exact Array.extract_size
  have e2 : l.toArray.extract 0 l.toArray.size = l.toArray := Array.extract_size
  rw [e1, e2] at h3
  simpa using h3.symm

theorem sorted_arr {d : Array Rc} (h : @Go.Sort.SortedIn Rc rcInh (ltOf cfR) 0 d.size d) : d.toList.Pairwise (fun a b => a.ord ≤ b.ord) := by
  rw [List.pairwise_iff_getElem]
  intro i j hi hj hij
  have h1 := h i j (Nat.zero_le _) hij (by simpa using hj)
  rw [ltR] at h1
  simp only [Array.length_toList] at hi hj
  rw [@getElem!_pos _ _ _ _ _ _ rcInh d j hj, @getElem!_pos _ _ _ _ _ _ rcInh d i hi] at h1
  simp at h1
  simpa using h1

theorem sw_size (w : World) (g n : Nat) (d : Array Rc) (os : Array Obj) : (@sortWorldK Rc rcInh recC 6 w g 0 n d os).heap.size = w.heap.size + os.size := by
  show ((w.heap.modify g _) ++ os).size = _
  simp

theorem sw_other {w : World} {g n b : Nat} {d : Array Rc} {os : Array Obj} (hb : b < w.heap.size) (hne : b ≠ g) : (@sortWorldK Rc rcInh recC 6 w g 0 n d os).heap[b]? = w.heap[b]? := by
  show ((w.heap.modify g _) ++ os)[b]? = _
  rw [Array.getElem?_append_left (by simpa using hb), Array.getElem?_modify, if_neg (fun e => hne e.symm)]

theorem sw_fr {w : World} {g n : Nat} {d : Array Rc} {os : Array Obj} {len cap : Nat} (_hg : g < w.heap.size) : Fr (fun q => (Value.slice (some ⟨g, 0, none⟩) len cap).ownBlock = some q) w (@sortWorldK Rc rcInh recC 6 w g 0 n d os) :=
  ⟨rfl, rfl, rfl, by rw [sw_size]; omega, fun b hb hn => sw_other hb (fun e => hn (by rw [e]; rfl))⟩

theorem sw_own {w : World} {B g n cap : Nat} {d : Array Rc} {os : Array Obj} {l : List Rc} (h : w.ownsRow B 158 6 (.slice (some ⟨g, 0, none⟩) l.length cap) l.length (keptC l)) (hs : d.toList.length = l.length) :
    (@sortWorldK Rc rcInh recC 6 w g 0 n d os).ownsRow B 158 6 (.slice (some ⟨g, 0, none⟩) l.length cap) l.length (keptC d.toList) := by
  have hgl := (h.lt g rfl).2
  obtain ⟨hlen, ⟨hv, _⟩ | ⟨g', cap', cur, hv, hB, hg, hc1, hc2, hc3, hc4⟩⟩ := h
  · cases hv
  · cases hv
    have hF : @Go.Sort.flatK Rc rcInh recC 6 d = (keptC d.toList).toArray := by
      have := flat_kept d.toList
      simpa using this
    have hkl := keptC_len d.toList
    refine ⟨by rw [hkl, hs], .inr ⟨g, cap, Go.Sort.putCells id 0 (keptC d.toList).toArray cur, rfl, hB, ?_, hc1, hc2, ?_, ?_⟩⟩
    · show ((w.heap.modify g (Go.Sort.onCells (Go.Sort.putCells id 0 (@Go.Sort.flatK Rc rcInh recC 6 d)))) ++ os)[g]? = _
      rw [Array.getElem?_append_left (by simpa using hgl), Array.getElem?_modify, if_pos rfl, hg, hF]
      rfl
    · unfold Go.Sort.putCells
      rw [Array.size_mapIdx]
      exact hc3
    · apply List.ext_getElem?
      intro q
      rw [List.getElem?_take]
      by_cases hq : q < l.length * 6
      · rw [if_pos hq]
        unfold Go.Sort.putCells
        rw [Array.getElem?_toList, Array.getElem?_mapIdx, Array.getElem?_eq_getElem (by rw [hc3]; omega)]
        have hq2 : q < (keptC d.toList).length := by rw [hkl, hs]; exact hq
        simp only [Option.map_some, Nat.zero_le, Nat.zero_add, List.size_toArray, hq2, and_self, if_true, Nat.sub_zero, id]
        rw [getElem!_pos _ q (by simpa using hq2), List.getElem?_eq_getElem hq2]
        simp
      · rw [if_neg hq, List.getElem?_eq_none (by rw [hkl, hs]; omega)]

set_option maxRecDepth 100000 in
theorem sort_recs : SortC := by
  intro v l w B hl h
  have h0 := h
  obtain ⟨hlen, ⟨rfl, hn⟩ | ⟨g, cap, cur, rfl, hB, hg, hc1, hc2, hc3, hc4⟩⟩ := h0
  · have hc := AnyF.slices_SortFunc_none Tryz.sortL none 0 (.func (.func 90) #[] #[]) w
    change Calls Tryz.prog 89 _ _ _ at hc
    refine hc.mono ?_
    rintro e w' ⟨rfl, rfl⟩
    have : l = [] := List.length_eq_zero_iff.1 hn
    subst this
    exact ⟨rfl, [], List.Perm.refl _, List.Pairwise.nil, h, Fr.refl _ _⟩
  · have hgl := (h.lt g rfl).2
    have eg : ∀ args w, (callFunc 90 args).run Tryz.prog w = .ok (.enter 90 args) w := enters_of Tryz.func90 (by kernel_rfl) rfl
    have hH : @Go.Sort.HoldsK Rc rcInh recC 6 w g 0 l.toArray := by
      show Go.Sort.Holds id w g 0 (@Go.Sort.flatK Rc rcInh recC 6 l.toArray)
      rw [flat_kept]
      intro j hj
      have hj' : j < (keptC l).length := by simpa using hj
      refine ⟨?_, h.frozenAt _⟩
      have := h.cells (g := g) rfl j ((keptC l)[j]) (List.getElem?_eq_getElem hj')
      rw [Addr.add_lit] at this
      rw [this, getElem!_pos _ j hj]
      simp
    have hcmp : @CmpLays Rc rcInh Tryz.prog 90 #[] recC 6 cfR g 0 l.toArray.size w := fun _ _ _ _ x y => closure_any x y _
    have hc := @AnyQ.slices_SortFunc Tryz.prog Tryz.sortL_ren Rc rcInh Tryz.sortL 6 Tryz.isAgg158 Tryz.sizeOf158 recC (fun _ => rfl) recC_one cfR swoR 90 #[] g 0 cap l.toArray w eg hcmp hH hgl (by simp; omega)
    change Calls Tryz.prog 89 _ _ _ at hc
    rw [List.size_toArray] at hc
    refine hc.mono ?_
    rintro e w' ⟨rfl, d, n, os, hp, hs, rfl⟩
    have hds : d.size = l.length := by have := hp.1; simpa using this
    have hsz : d.toList.length = l.length := by simpa using hds
    refine ⟨rfl, d.toList, perm_arr (by simpa using hp), sorted_arr (by rw [hds]; exact hs), ?_, ?_⟩
    · rw [hsz]
      exact sw_own h hsz
    · exact sw_fr hgl

end Go.Proofs.YtdabcflpcklfiaaGreat
