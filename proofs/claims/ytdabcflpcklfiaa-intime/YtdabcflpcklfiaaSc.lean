import Derived.Test.YtdabcflpcklfiaaSb
import Derived.Shelf.SlSortCmp.NoneTotal
import Derived.Ground.SlsfProg
/- Two records are compared. -/
namespace Go.Proofs.Ytdabcflpcklfiaa
open Go.RowKit Cad

set_option maxHeartbeats 400000 in
theorem isNaN_any (x : Int) (w : World) : Calls Try.prog 111 #[.int .i64 x] w fun e w' => e = .returned (.bool false) ∧ w' = w := by
  have hx : (x != x) = false := by simp
  go_enter Try.func111, Try.ntmps111
  go_wp2
  go_ret
  exact ⟨rfl, rfl⟩

def cmpI (x y : Int) : Int := if x < y then -1 else if y < x then 1 else 0

set_option maxHeartbeats 400000 in
theorem compare_any (x y : Int) (w : World) : Calls Try.prog 82 #[.int .i64 x, .int .i64 y] w fun e w' => e = .returned (.int .i64 (cmpI x y)) ∧ w' = w := by
  by_cases h1 : x < y
  · have b1 : decide (x < y) = true := by simpa using h1
    have HE : Hid (cmpI x y = -1) := by unfold Hid cmpI; rw [if_pos h1]
    go_enter Try.func82, Try.ntmps82
    go_wp2_with (go_at_call 111; refine (isNaN_any _ _).mono ?_; rintro e w' ⟨rfl, rfl⟩)
    go_ret
    exact ⟨by rw [HE.out]; rfl, rfl⟩
  · have b1 : decide (x < y) = false := by simpa using h1
    by_cases h2 : y < x
    · have b2 : decide (y < x) = true := by simpa using h2
      have HE : Hid (cmpI x y = 1) := by unfold Hid cmpI; rw [if_neg h1, if_pos h2]
      go_enter Try.func82, Try.ntmps82
      go_wp2_with (go_at_call 111; refine (isNaN_any _ _).mono ?_; rintro e w' ⟨rfl, rfl⟩)
      go_ret
      exact ⟨by rw [HE.out]; rfl, rfl⟩
    · have b2 : decide (y < x) = false := by simpa using h2
      have HE : Hid (cmpI x y = 0) := by unfold Hid cmpI; rw [if_neg h1, if_neg h2]
      go_enter Try.func82, Try.ntmps82
      go_wp2_with (go_at_call 111; refine (isNaN_any _ _).mono ?_; rintro e w' ⟨rfl, rfl⟩)
      go_ret
      exact ⟨by rw [HE.out]; rfl, rfl⟩

def Try.sortL_ren : Go.Shelf.Ren := ⟨fun | 6 => 80 | 15 => 110 | 14 => 109 | 28 => 131 | 29 => 132 | 20 => 123 | 21 => 124 | 22 => 125 | 23 => 126 | 24 => 127 | 25 => 128 | 26 => 129 | 27 => 130 | 46 => 134 | 47 => 135 | 48 => 136 | 49 => 137 | 50 => 138 | 57 => 139 | n => n, fun | 22 => 133 | 24 => 140 | 25 => 147 | 3 => 3 | 39 => 172 | 0 => 0 | 53 => 102 | 55 => 187 | 4 => 4 | 46 => 180 | 45 => 179 | 50 => 55 | 5 => 5 | 9 => 9 | 66 => 189 | 70 => 193 | 76 => 195 | 77 => 196 | n => n, fun | n => n⟩
theorem Try.sortL : Go.Proofs.SlLaysF0.n6 Try.prog Try.sortL_ren := {
  mixed := by kernel_rfl
  f6 := ⟨Try.f80.name, by decide, Try.func80.trans (congrArg some (by kernel_rfl))⟩
  f14 := ⟨Try.f109.name, by decide, Try.func109.trans (congrArg some (by kernel_rfl))⟩
  f15 := Try.func110.trans (congrArg some (by kernel_rfl))
  f20 := ⟨Try.f123.name, by decide, Try.func123.trans (congrArg some (by kernel_rfl))⟩
  f21 := ⟨Try.f124.name, by decide, Try.func124.trans (congrArg some (by kernel_rfl))⟩
  f22 := ⟨Try.f125.name, by decide, Try.func125.trans (congrArg some (by kernel_rfl))⟩
  f23 := ⟨Try.f126.name, by decide, Try.func126.trans (congrArg some (by kernel_rfl))⟩
  f24 := ⟨Try.f127.name, by decide, Try.func127.trans (congrArg some (by kernel_rfl))⟩
  f25 := ⟨Try.f128.name, by decide, Try.func128.trans (congrArg some (by kernel_rfl))⟩
  f26 := ⟨Try.f129.name, by decide, Try.func129.trans (congrArg some (by kernel_rfl))⟩
  f27 := ⟨Try.f130.name, by decide, Try.func130.trans (congrArg some (by kernel_rfl))⟩
  f28 := Try.func131.trans (congrArg some (by kernel_rfl))
  f29 := Try.func132.trans (congrArg some (by kernel_rfl))
  f46 := ⟨Try.f134.name, by decide, Try.func134.trans (congrArg some (by kernel_rfl))⟩
  f47 := Try.func135.trans (congrArg some (by kernel_rfl))
  f48 := Try.func136.trans (congrArg some (by kernel_rfl))
  f49 := ⟨Try.f137.name, by decide, Try.func137.trans (congrArg some (by kernel_rfl))⟩
  f50 := ⟨Try.f138.name, by decide, Try.func138.trans (congrArg some (by kernel_rfl))⟩
  f57 := ⟨Try.f139.name, by decide, Try.func139.trans (congrArg some (by kernel_rfl))⟩
  t0 := Try.underlying0
  a0 := Try.isAgg0
  z0 := Try.sizeOf0
  v0 := Try.zeroValue0
  t3 := Try.underlying3
  a3 := Try.isAgg3
  z3 := Try.sizeOf3
  v3 := Try.zeroValue3
  t4 := Try.underlying4
  a4 := Try.isAgg4
  z4 := Try.sizeOf4
  v4 := Try.zeroValue4
  t5 := Try.underlying5
  a5 := Try.isAgg5
  z5 := Try.sizeOf5
  v5 := Try.zeroValue5
  t9 := Try.underlying9
  a9 := Try.isAgg9
  z9 := Try.sizeOf9
  v9 := Try.zeroValue9
  t22 := Try.underlying133
  a22 := Try.isAgg133
  z22 := Try.sizeOf133
  v22 := Try.zeroValue133
  t25 := Try.underlying147
  a25 := Try.isAgg147
  z25 := Try.sizeOf147
  v25 := Try.zeroValue147
  t39 := Try.underlying172
  a39 := Try.isAgg172
  z39 := Try.sizeOf172
  v39 := Try.zeroValue172
  t45 := Try.underlying179
  a45 := Try.isAgg179
  z45 := Try.sizeOf179
  v45 := Try.zeroValue179
  t46 := Try.underlying180
  a46 := Try.isAgg180
  z46 := Try.sizeOf180
  v46 := Try.zeroValue180
  t50 := Try.underlying55
  a50 := Try.isAgg55
  z50 := Try.sizeOf55
  v50 := Try.zeroValue55
  t53 := Try.underlying102
  a53 := Try.isAgg102
  z53 := Try.sizeOf102
  v53 := Try.zeroValue102
  t55 := Try.underlying187
  a55 := Try.isAgg187
  z55 := Try.sizeOf187
  v55 := Try.zeroValue187
  t66 := Try.underlying189
  a66 := Try.isAgg189
  z66 := Try.sizeOf189
  v66 := Try.zeroValue189
  t70 := Try.underlying193
  a70 := Try.isAgg193
  z70 := Try.sizeOf193
  v70 := Try.zeroValue193
  t76 := Try.underlying195
  a76 := Try.isAgg195
  z76 := Try.sizeOf195
  v76 := Try.zeroValue195
  t77 := Try.underlying196
  a77 := Try.isAgg196
  z77 := Try.sizeOf196
  v77 := Try.zeroValue196 }

/-- How records are compared. -/
def cfR (x y : Rc) : Int := cmpI x.ord y.ord

theorem ltR (x y : Rc) : ltOf cfR x y = decide (x.ord < y.ord) := by
  unfold ltOf cfR cmpI
  by_cases h1 : x.ord < y.ord
  · simp [h1]
  · by_cases h2 : y.ord < x.ord <;> simp [h1, h2]

theorem swoR : Go.Sort.SWO (ltOf cfR) where
  irrefl x := by rw [ltR]; simp
  trans x y z h1 h2 := by rw [ltR] at *; simp at *; omega
  ntrans x y z h1 h2 := by rw [ltR] at *; simp at *; omega

set_option maxHeartbeats 1000000 in
theorem closure_any (x y : Rc) (W : World) : Calls Try.prog 81 #[.agg (recC x).toArray, .agg (recC y).toArray] W fun e w' => e = .returned (.int .i64 (cfR x y)) ∧ ∃ q os', w' = Go.Sort.grow (W.drewN q) os' := by
  have hcon := fun W' => compare_any x.ord y.ord W'
  show Calls Try.prog 81 #[.agg #[.int .i64 x.task, .int .i64 x.arr, .int .i64 x.rel, .int .i64 x.done, .int .i64 x.left, .int .i64 x.ord], .agg #[.int .i64 y.task, .int .i64 y.arr, .int .i64 y.rel, .int .i64 y.done, .int .i64 y.left, .int .i64 y.ord]] W _
  unfold cfR
  generalize cmpI x.ord y.ord = r at hcon ⊢
  go_enter Try.func81, Try.ntmps81
  go_wp2_with (go_at_call 82; refine (hcon _).mono ?_; rintro e w' ⟨rfl, rfl⟩)
  go_ret
  exact ⟨rfl, 0, _, by rw [Go.Sort.alloc_eq_grow, Go.Sort.alloc_eq_grow, Go.Sort.grow_grow]; rfl⟩

@[reducible] def rcInh : Inhabited Rc := ⟨⟨0, 0, 0, 0, 0, 0⟩⟩

theorem recC_one (x : Rc) : ∀ v ∈ recC x, v.oneCell' = true := by
  intro v hv
  simp [recC] at hv
  rcases hv with rfl | rfl | rfl | rfl | rfl | rfl <;> rfl

/-- A list's cells, flat. -/
theorem flat_kept (l : List Rc) : @Go.Sort.flatK Rc rcInh recC 6 l.toArray = (keptC l).toArray := by
  apply Array.ext_getElem?
  intro t
  by_cases ht : t < l.length * 6
  · obtain ⟨r, hr⟩ : ∃ r, l[t / 6]? = some r := ⟨_, List.getElem?_eq_getElem (by omega)⟩
    have h1 := keptC_at hr (t % 6) (by omega)
    rw [show t / 6 * 6 + t % 6 = t from by omega] at h1
    have h2 : (@Go.Sort.flatK Rc rcInh recC 6 l.toArray)[t]? = some (@Go.Sort.flatK Rc rcInh recC 6 l.toArray)[t]! := by
      rw [getElem!_pos _ t (by rw [@Go.Sort.size_flatK Rc rcInh]; exact ht)]
      exact Array.getElem?_eq_getElem _
    rw [h2, @Go.Sort.get_flatK Rc rcInh _ _ _ _ (by exact ht)]
    rw [@getElem!_pos _ _ _ _ _ _ rcInh l.toArray (t / 6) (by simp only [List.size_toArray]; omega)]
    have h3 : l.toArray[t / 6]'(by simp only [List.size_toArray]; omega) = r := by
      have := List.getElem?_eq_some_iff.1 hr
      simpa using this.2
    rw [h3, List.getElem?_toArray, h1]
    have h4 : t % 6 < 6 := by omega
    simp only [recC]
    match t % 6, h4 with
    | 0, _ => rfl
    | 1, _ => rfl
    | 2, _ => rfl
    | 3, _ => rfl
    | 4, _ => rfl
    | 5, _ => rfl
  · rw [Array.getElem?_eq_none (by rw [@Go.Sort.size_flatK Rc rcInh]; exact Nat.le_of_not_lt ht), Array.getElem?_eq_none (by simp only [List.size_toArray]; rw [keptC_len]; omega)]

theorem perm_arr {l : List Rc} {d : Array Rc} (h : @Go.Sort.PermIn Rc rcInh 0 l.toArray.size l.toArray d) : l.Perm d.toList := by
  obtain ⟨h1, _, h3⟩ := h
  have e1 : d.extract 0 l.toArray.size = d := by rw [← h1]; exact Array.extract_size
  have e2 : l.toArray.extract 0 l.toArray.size = l.toArray := Array.extract_size
  rw [e1, e2] at h3
  simpa using h3.symm

theorem sorted_arr {d : Array Rc} (h : @Go.Sort.SortedIn Rc rcInh (ltOf cfR) 0 d.size d) : d.toList.Pairwise (fun a b => a.ord ≤ b.ord) := by
  rw [List.pairwise_iff_getElem]
  intro i j hi hj hij
  have h1 := h i j (Nat.zero_le _) hij (by simpa using hj)
  rw [ltR] at h1
  simp only [Array.length_toList] at hi hj
  rw [@getElem!_pos _ _ _ _ _ _ rcInh d j hj, @getElem!_pos _ _ _ _ _ _ rcInh d i hi] at h1
  simp at h1
  simpa using h1

theorem sw_size (w : World) (g n : Nat) (d : Array Rc) (os : Array Obj) : (@sortWorldK Rc rcInh recC 6 w g 0 n d os).heap.size = w.heap.size + os.size := by
  show ((w.heap.modify g _) ++ os).size = _
  simp

theorem sw_other {w : World} {g n b : Nat} {d : Array Rc} {os : Array Obj} (hb : b < w.heap.size) (hne : b ≠ g) : (@sortWorldK Rc rcInh recC 6 w g 0 n d os).heap[b]? = w.heap[b]? := by
  show ((w.heap.modify g _) ++ os)[b]? = _
  rw [Array.getElem?_append_left (by simpa using hb), Array.getElem?_modify, if_neg (fun e => hne e.symm)]

theorem sw_fr {w : World} {g n : Nat} {d : Array Rc} {os : Array Obj} {len cap : Nat} (_hg : g < w.heap.size) : Fr (fun q => (Value.slice (some ⟨g, 0, none⟩) len cap).ownBlock = some q) w (@sortWorldK Rc rcInh recC 6 w g 0 n d os) :=
  ⟨rfl, rfl, rfl, by rw [sw_size]; omega, fun b hb hn => sw_other hb (fun e => hn (by rw [e]; rfl))⟩

theorem sw_own {w : World} {B g n cap : Nat} {d : Array Rc} {os : Array Obj} {l : List Rc} (h : w.ownsRow B 140 6 (.slice (some ⟨g, 0, none⟩) l.length cap) l.length (keptC l)) (hs : d.toList.length = l.length) :
    (@sortWorldK Rc rcInh recC 6 w g 0 n d os).ownsRow B 140 6 (.slice (some ⟨g, 0, none⟩) l.length cap) l.length (keptC d.toList) := by
  have hgl := (h.lt g rfl).2
  obtain ⟨hlen, ⟨hv, _⟩ | ⟨g', cap', cur, hv, hB, hg, hc1, hc2, hc3, hc4⟩⟩ := h
  · cases hv
  · cases hv
    have hF : @Go.Sort.flatK Rc rcInh recC 6 d = (keptC d.toList).toArray := by
      have := flat_kept d.toList
      simpa using this
    have hkl := keptC_len d.toList
    refine ⟨by rw [hkl, hs], .inr ⟨g, cap, Go.Sort.putCells id 0 (keptC d.toList).toArray cur, rfl, hB, ?_, hc1, hc2, ?_, ?_⟩⟩
    · show ((w.heap.modify g (Go.Sort.onCells (Go.Sort.putCells id 0 (@Go.Sort.flatK Rc rcInh recC 6 d)))) ++ os)[g]? = _
      rw [Array.getElem?_append_left (by simpa using hgl), Array.getElem?_modify, if_pos rfl, hg, hF]
      rfl
    · unfold Go.Sort.putCells
      rw [Array.size_mapIdx]
      exact hc3
    · apply List.ext_getElem?
      intro q
      rw [List.getElem?_take]
      by_cases hq : q < l.length * 6
      · rw [if_pos hq]
        unfold Go.Sort.putCells
        rw [Array.getElem?_toList, Array.getElem?_mapIdx, Array.getElem?_eq_getElem (by rw [hc3]; omega)]
        have hq2 : q < (keptC d.toList).length := by rw [hkl, hs]; exact hq
        simp only [Option.map_some, Nat.zero_le, Nat.zero_add, List.size_toArray, hq2, and_self, if_true, Nat.sub_zero, id]
        rw [getElem!_pos _ q (by simpa using hq2), List.getElem?_eq_getElem hq2]
        simp
      · rw [if_neg hq, List.getElem?_eq_none (by rw [hkl, hs]; omega)]

set_option maxRecDepth 100000 in
theorem sort_recs : SortC := by
  intro v l w B hl h
  have h0 := h
  obtain ⟨hlen, ⟨rfl, hn⟩ | ⟨g, cap, cur, rfl, hB, hg, hc1, hc2, hc3, hc4⟩⟩ := h0
  · have hc := AnyF.slices_SortFunc_none Try.sortL none 0 (.func (.func 81) #[] #[]) w
    change Calls Try.prog 80 _ _ _ at hc
    refine hc.mono ?_
    rintro e w' ⟨rfl, rfl⟩
    have : l = [] := List.length_eq_zero_iff.1 hn
    subst this
    exact ⟨rfl, [], List.Perm.refl _, List.Pairwise.nil, h, Fr.refl _ _⟩
  · have hgl := (h.lt g rfl).2
    have eg : ∀ args w, (callFunc 81 args).run Try.prog w = .ok (.enter 81 args) w := enters_of Try.func81 (by kernel_rfl) rfl
    have hH : @Go.Sort.HoldsK Rc rcInh recC 6 w g 0 l.toArray := by
      show Go.Sort.Holds id w g 0 (@Go.Sort.flatK Rc rcInh recC 6 l.toArray)
      rw [flat_kept]
      intro j hj
      have hj' : j < (keptC l).length := by simpa using hj
      refine ⟨?_, h.frozenAt _⟩
      have := h.cells (g := g) rfl j ((keptC l)[j]) (List.getElem?_eq_getElem hj')
      rw [Addr.add_lit] at this
      rw [this, getElem!_pos _ j hj]
      simp
    have hcmp : @CmpLays Rc rcInh Try.prog 81 #[] recC 6 cfR g 0 l.toArray.size w := fun _ _ _ _ x y => closure_any x y _
    have hc := @AnyQ.slices_SortFunc Try.prog Try.sortL_ren Rc rcInh Try.sortL 6 Try.isAgg140 Try.sizeOf140 recC (fun _ => rfl) recC_one cfR swoR 81 #[] g 0 cap l.toArray w eg hcmp hH hgl (by simp; omega)
    change Calls Try.prog 80 _ _ _ at hc
    rw [List.size_toArray] at hc
    refine hc.mono ?_
    rintro e w' ⟨rfl, d, n, os, hp, hs, rfl⟩
    have hds : d.size = l.length := by have := hp.1; simpa using this
    have hsz : d.toList.length = l.length := by simpa using hds
    refine ⟨rfl, d.toList, perm_arr (by simpa using hp), sorted_arr (by rw [hds]; exact hs), ?_, ?_⟩
    · rw [hsz]
      exact sw_own h hsz
    · exact sw_fr hgl

end Go.Proofs.Ytdabcflpcklfiaa
