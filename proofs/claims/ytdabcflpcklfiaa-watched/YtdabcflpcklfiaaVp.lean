import Derived.Test.YtdabcflpcklfiaaVn
import Derived.Test.YtdabcflpcklfiaaRc
import Derived.Test.YtdabcflpcklfiaaVu
/- A run is added to the law's watch. -/
namespace Go.Proofs.Ytdabcflpcklfiaa
open Go.RowKit Cad

theorem WAt.moveAsked {w : World} {B n kb : Nat} {tv pv : Value} {u : Wt} {dn : Nat → Nat} {Y : WL} (h : WAt w B n kb tv pv u dn Y) (hs : WSep n u dn Y) (x : Int) : WMove B n kb tv pv u { u with asked := x } dn dn Y Y w (w.setCell ⟨Y.wb, 7, none⟩ (.int .i64 x)) := by
  refine h.moveW hs rfl (fun p hp => ?_)
  match p, hp with
  | 0, _ => rfl
  | 1, _ => rfl
  | 2, _ => rfl
  | 3, _ => rfl
  | 4, _ => rfl
  | 5, _ => rfl
  | 6, _ => rfl
  | 7, _ => rfl

/-- The layout with one run more. -/
def addY (Y : WL) (t k : Nat) (v : Value) (jN : Nat) (Vn : Nat → Value) : WL :=
  { Y with sv := upd Y.sv t v, jb := fun a q => if a = t ∧ q = k then jN else Y.jb a q, V := fun c a q => if a = t ∧ q = k then Vn c else Y.V c a q }

/-- With one run more. -/
def addR (u : Wt) (t : Nat) (x : Wr) : Wt := { u with runs := upd u.runs t (u.runs t ++ [x]) }

theorem addR_get {u : Wt} {t : Nat} {x : Wr} {a i : Nat} {y : Wr} (h : ((addR u t x).runs a)[i]? = some y) : (a = t ∧ i = (u.runs t).length ∧ y = x) ∨ (u.runs a)[i]? = some y := by
  have h' : (upd u.runs t (u.runs t ++ [x]) a)[i]? = some y := h
  by_cases e : a = t
  · subst e
    rw [upd_same] at h'
    by_cases hi : i < (u.runs a).length
    · rw [List.getElem?_append_left hi] at h'
      exact .inr h'
    · rw [List.getElem?_append_right (by omega)] at h'
      cases hd : i - (u.runs a).length with
      | zero =>
        rw [hd] at h'
        simp at h'
        exact .inl ⟨rfl, by omega, h'.symm⟩
      | succ q => rw [hd] at h'; simp at h'
  · rw [upd_other _ _ e] at h'
    exact .inr h'

theorem addR_live {n : Nat} {u : Wt} {dn : Nat → Nat} {t : Nat} {x : Wr} {a k : Nat} (h : wlive n (addR u t x) dn a k) : (a = t ∧ k = dn t + (u.runs t).length) ∨ wlive n u dn a k := by
  obtain ⟨i, y, rfl, hy⟩ := get_wlive h
  rcases addR_get hy with ⟨rfl, rfl, _⟩ | h'
  · exact .inl ⟨rfl, rfl⟩
  · exact .inr (wlive_get h.1 h')

/-- One run more. -/
theorem WMove.push {ws w w' : World} {B n kb : Nat} {tv pv : Value} {us u : Wt} {dns dn : Nat → Nat} {Ys Y : WL} (hm : WMove B n kb tv pv us u dns dn Ys Y ws w) {t jN : Nat} {x : Wr} {v : Value} {Vn : Nat → Value} (ht : t < n)
    (hf : Fr (fun q => q = Y.rb ∨ (Y.sv t).ownBlock = some q) w w') (hrb : w'.rowIs Y.rb 95 n (upd Y.sv t v)) (hsl : SL 92 w' B v (ptrs Y t (dn t) (u.runs t).length ++ [.pointer (some ⟨jN, 0, none⟩)])) (hvb : ∀ b, v.ownBlock = some b → (Y.sv t).ownBlock = some b ∨ w.heap.size ≤ b)
    (hj : w'.rowIs jN 94 8 (rcell t x Vn)) (hjN : w.heap.size ≤ jN) (hi : ∀ c, c < 3 → SL 3 w' B (Vn c) (ints (lst x c))) (hin : ∀ c, c < 3 → ∀ b, (Vn c).ownBlock = some b → ws.heap.size ≤ b ∧ ¬ footW n u dn Y b) (hid : ∀ c c' b, c < 3 → c' < 3 → (Vn c).ownBlock = some b → (Vn c').ownBlock = some b → c = c') :
    WMove B n kb tv pv us (addR u t x) dns dn Ys (addY Y t (dn t + (u.runs t).length) v jN Vn) ws w' := by
  have h := hm.at'
  have hs := hm.sep
  have hws := hm.fr.size
  have hnl : ∀ a k, wlive n u dn a k → ¬ (a = t ∧ k = dn t + (u.runs t).length) := by
    rintro a k ⟨_, _, h3⟩ ⟨rfl, rfl⟩
    omega
  have hJo : ∀ a k, wlive n u dn a k → (addY Y t (dn t + (u.runs t).length) v jN Vn).jb a k = Y.jb a k := fun a k hl => if_neg (hnl a k hl)
  have hVo : ∀ c a k, wlive n u dn a k → (addY Y t (dn t + (u.runs t).length) v jN Vn).V c a k = Y.V c a k := fun c a k hl => if_neg (hnl a k hl)
  have hJs : (addY Y t (dn t + (u.runs t).length) v jN Vn).jb t (dn t + (u.runs t).length) = jN := if_pos ⟨rfl, rfl⟩
  have hVs : ∀ c, (addY Y t (dn t + (u.runs t).length) v jN Vn).V c t (dn t + (u.runs t).length) = Vn c := fun c => if_pos ⟨rfl, rfl⟩
  have hfX : ∀ b T N F, w.rowIs b T N F → T ≠ 95 → T ≠ 92 → ¬ (b = Y.rb ∨ (Y.sv t).ownBlock = some b) := by
    rintro b T N F hr h1 h2 (e | e)
    · exact row_ne hr h.rrow h1 e
    · exact (h.srow t ht).ne hr h2 e
  have hB : B ≤ w.heap.size := by
    have h1 := h.lo.1
    have h2 := h.wrow.lt
    omega
  have hjlt : ∀ a k, wlive n u dn a k → Y.jb a k < w.heap.size := fun a k hl => (h.foot_lt (.inr (.inr (.inr (.inl ⟨a, k, hl, rfl⟩))))).2
  have hslt : ∀ a b, a < n → (Y.sv a).ownBlock = some b → b < w.heap.size := fun a b ha e => (h.foot_lt (.inr (.inr (.inl ⟨a, ha, e⟩)))).2
  refine ⟨⟨?_, hrb, fun a ha => ?_, fun a ha i y hy => ?_, fun a ha i y hy c hc => ?_, h.lo.1, h.lo.2.1, fun a ha i hi' => ?_⟩, ⟨fun a a' b ha ha' e1 e2 => ?_, fun a k a' k' g1 g2 e => ?_, fun c a k c' a' k' b hc hc' g1 g2 e1 e2 => ?_⟩, ?_, fun b hb => ?_, hm.wb⟩
  · exact hf.row h.wrow (hfX _ _ _ _ h.wrow (by decide) (by decide))
  · show SL 92 w' B (upd Y.sv t v a) (ptrs (addY Y t (dn t + (u.runs t).length) v jN Vn) a (dn a) (upd u.runs t (u.runs t ++ [x]) a).length)
    by_cases e : a = t
    · subst e
      rw [upd_same, upd_same]
      have e2 : ptrs (addY Y a (dn a + (u.runs a).length) v jN Vn) a (dn a) (u.runs a ++ [x]).length = ptrs Y a (dn a) (u.runs a).length ++ [.pointer (some ⟨jN, 0, none⟩)] := by
        unfold ptrs
        rw [List.length_append, List.length_singleton, List.range_succ, List.map_append, List.map_singleton, hJs]
        congr 1
        refine List.map_congr_left (fun i hi' => ?_)
        have hi2 := List.mem_range.1 hi'
        rw [hJo a (dn a + i) ⟨ha, by omega, by omega⟩]
      rw [e2]
      exact hsl
    · rw [upd_other _ _ e, upd_other _ _ e]
      have e2 : ptrs (addY Y t (dn t + (u.runs t).length) v jN Vn) a (dn a) (u.runs a).length = ptrs Y a (dn a) (u.runs a).length := by
        unfold ptrs
        refine List.map_congr_left (fun i hi' => ?_)
        have hi2 := List.mem_range.1 hi'
        rw [hJo a (dn a + i) ⟨ha, by omega, by omega⟩]
      rw [e2]
      refine (h.srow a ha).of_block (fun b hb => hf.block b (hslt a b ha hb) (fun hc => ?_))
      rcases hc with hc | hc
      · rw [hc] at hb
        exact (h.srow a ha).ne h.rrow (by decide) hb
      · exact e (hs.sl a t b ha ht hb hc)
  · rcases addR_get hy with ⟨rfl, rfl, rfl⟩ | hy'
    · rw [hJs]
      have e : (fun c => (addY Y a (dn a + (u.runs a).length) v jN Vn).V c a (dn a + (u.runs a).length)) = Vn := funext hVs
      rw [e]
      exact hj
    · have hl := wlive_get (n := n) (dn := dn) ha hy'
      rw [hJo a _ hl]
      have e : (fun c => (addY Y t (dn t + (u.runs t).length) v jN Vn).V c a (dn a + i)) = (fun c => Y.V c a (dn a + i)) := funext (fun c => hVo c a _ hl)
      rw [e]
      have hr := h.jrow a ha i y hy'
      exact hf.row hr (hfX _ _ _ _ hr (by decide) (by decide))
  · rcases addR_get hy with ⟨rfl, rfl, rfl⟩ | hy'
    · rw [hVs]
      exact hi c hc
    · have hl := wlive_get (n := n) (dn := dn) ha hy'
      rw [hVo c a _ hl]
      have hr := h.irow a ha i y hy' c hc
      refine hr.of_block (fun b hb => hf.block b (hr.lt b hb).2 (fun hc' => ?_))
      rcases hc' with hc' | hc'
      · rw [hc'] at hb
        exact hr.ne h.rrow (by decide) hb
      · rcases h.srow t ht with ⟨g, _⟩ | ⟨g, off, cap, sz, f, hv, _, hr', _⟩
        · rw [g] at hc'; cases hc'
        · rw [hv] at hc'; cases hc'
          exact hr.ne hr' (by decide) hb
  · obtain ⟨y, hy⟩ : ∃ y, ((addR u t x).runs a)[i]? = some y := ⟨_, List.getElem?_eq_getElem hi'⟩
    rcases addR_get hy with ⟨rfl, rfl, _⟩ | hy'
    · rw [hJs]; omega
    · rw [hJo a _ (wlive_get ha hy')]
      exact h.lo.2.2 a ha i (List.getElem?_eq_some_iff.1 hy').1
  · have q : ∀ c, (upd Y.sv t v c).ownBlock = some b → (Y.sv c).ownBlock = some b ∨ (c = t ∧ w.heap.size ≤ b) := fun c hc => by
      by_cases e : c = t
      · subst e
        rw [upd_same] at hc
        rcases hvb b hc with g | g
        · exact .inl g
        · exact .inr ⟨rfl, g⟩
      · rw [upd_other _ _ e] at hc
        exact .inl hc
    rcases q a e1 with g1 | ⟨g1, g1'⟩
    · rcases q a' e2 with g2 | ⟨g2, g2'⟩
      · exact hs.sl a a' b ha ha' g1 g2
      · have := hslt a b ha g1; omega
    · rcases q a' e2 with g2 | ⟨g2, g2'⟩
      · have := hslt a' b ha' g2; omega
      · omega
  · rcases addR_live g1 with ⟨rfl, rfl⟩ | l1
    · rcases addR_live g2 with ⟨rfl, rfl⟩ | l2
      · exact ⟨rfl, rfl⟩
      · rw [hJs, hJo _ _ l2] at e
        have := hjlt _ _ l2; omega
    · rcases addR_live g2 with ⟨rfl, rfl⟩ | l2
      · rw [hJs, hJo _ _ l1] at e
        have := hjlt _ _ l1; omega
      · rw [hJo _ _ l1, hJo _ _ l2] at e
        exact hs.jb _ _ _ _ l1 l2 e
  · rcases addR_live g1 with ⟨rfl, rfl⟩ | l1
    · rw [hVs] at e1
      rcases addR_live g2 with ⟨rfl, rfl⟩ | l2
      · rw [hVs] at e2
        exact ⟨hid c c' b hc hc' e1 e2, rfl, rfl⟩
      · rw [hVo _ _ _ l2] at e2
        exact absurd (.inr (.inr (.inr (.inr ⟨c', a', k', hc', l2, e2⟩)))) (hin c hc b e1).2
    · rw [hVo _ _ _ l1] at e1
      rcases addR_live g2 with ⟨rfl, rfl⟩ | l2
      · rw [hVs] at e2
        exact absurd (.inr (.inr (.inr (.inr ⟨c, a, k, hc, l1, e1⟩)))) (hin c' hc' b e2).2
      · rw [hVo _ _ _ l2] at e2
        exact hs.iv c a k c' a' k' b hc hc' l1 l2 e1 e2
  · refine hm.fr.trans hf (fun b hb => hm.ft b ?_)
    rcases hb with g | g
    · exact .inr (.inl g)
    · exact .inr (.inr (.inl ⟨t, ht, g⟩))
  · suffices hx : footW n u dn Y b ∨ ws.heap.size ≤ b by
      rcases hx with g | g
      · exact hm.ft b g
      · exact .inr g
    rcases hb with g | g | ⟨a, ha, g⟩ | ⟨a, k, g1, g2⟩ | ⟨c, a, k, g1, g2, g3⟩
    · exact .inl (.inl g)
    · exact .inl (.inr (.inl g))
    · have g' : (upd Y.sv t v a).ownBlock = some b := g
      by_cases e : a = t
      · subst e
        rw [upd_same] at g'
        rcases hvb b g' with q | q
        · exact .inl (.inr (.inr (.inl ⟨a, ha, q⟩)))
        · exact .inr (by omega)
      · rw [upd_other _ _ e] at g'
        exact .inl (.inr (.inr (.inl ⟨a, ha, g'⟩)))
    · rcases addR_live g1 with ⟨rfl, rfl⟩ | l1
      · rw [hJs] at g2
        exact .inr (by omega)
      · rw [hJo _ _ l1] at g2
        exact .inl (.inr (.inr (.inr (.inl ⟨a, k, l1, g2⟩))))
    · rcases addR_live g2 with ⟨rfl, rfl⟩ | l1
      · rw [hVs] at g3
        exact .inr (hin c g1 b g3).1
      · rw [hVo _ _ _ l1] at g3
        exact .inl (.inr (.inr (.inr (.inr ⟨c, a, k, g1, l1, g3⟩))))

/-- A list of one's own, as the law's watch takes it. -/
theorem SL.of_own {w : World} {base B : Nat} {v : Value} {l : List Int} (h : w.ownsRow base 3 1 v l.length (l.map (Value.int .i64))) (hB : B ≤ base) : SL 3 w B v (ints l) := by
  obtain ⟨_, ⟨rfl, h0⟩ | ⟨g, cap, cur, rfl, hb, hg, hle, _, hsz, ht⟩⟩ := h
  · refine .inl ⟨rfl, ?_⟩
    have : l = [] := List.length_eq_zero_iff.1 h0
    rw [this]; rfl
  · rw [Nat.mul_one] at hsz ht
    refine .inr ⟨g, 0, cap, cap, fun q => cur.toList.getD q (.int .i64 0), by rw [ints_len], by omega, ⟨cur, hg, hsz, fun i hi => ?_⟩, by omega, by rw [ints_len]; exact hle, fun i x hx => ?_⟩
    · simp [List.getD, hsz, hi]
    · have hx' : (cur.toList.take l.length)[i]? = some x := by rw [ht]; exact hx
      rw [List.getElem?_take] at hx'
      split at hx'
      · show cur.toList.getD (0 + i) _ = x
        rw [Nat.zero_add, List.getD_eq_getElem?_getD, hx']; rfl
      · cases hx'

theorem stepA_cases (T : TD) (Z : Nat → Int) (n : Nat) (m : Mc) (x y : Int) (R : Nat → Int) (rn : Nat) : ((stepA T Z n m x y R rn).2 ≠ 0 ∧ (stepA T Z n m x y R rn).1 = m) ∨
    ((stepA T Z n m x y R rn).2 = 0 ∧ (stepA T Z n m x y R rn).1 = added (sysOf T Z n) m (tkOf n x) (jitOf T (tkOf n x) y) (fun q => (demOf T (tkOf n x) R rn).getD q 0) ∧ refuse (sysOf T Z n) m (tkOf n x) (jitOf T (tkOf n x) y) (fun q => (demOf T (tkOf n x) R rn).getD q 0) (demOf T (tkOf n x) R rn).length = 0) := by
  unfold stepA arrive
  rw [Int.toNat_natCast]
  split
  · exact .inl ⟨show (5 : Int) ≠ 0 by decide, rfl⟩
  · split
    · rename_i h
      exact .inl ⟨h, rfl⟩
    · rename_i h
      exact .inr ⟨rfl, rfl, Classical.not_not.1 h⟩

theorem nowW_tick (S : Sy) (m : Mc) : (tick S m).1.now = m.now + 1 ∧ (tick S m).1.arrd = m.arrd := by
  rcases tick_cases S m with ⟨_, e⟩ | ⟨t, j, l, _, _, _, _, e⟩
  · rw [e]; exact ⟨rfl, rfl⟩
  · rw [e]
    unfold tickAt
    simp only []
    split <;> exact ⟨rfl, rfl⟩

theorem nowW_arrive (S : Sy) (m : Mc) (t jit : Int) (D : Nat → Int) (d : Nat) : (arrive S m t jit D d).1.now = m.now ∧ (arrive S m t jit D d).1.arrd ≤ m.arrd + 1 := by
  unfold arrive
  split
  · exact ⟨rfl, by show m.arrd ≤ _; omega⟩
  · split
    · exact ⟨rfl, by show m.arrd ≤ _; omega⟩
    · exact ⟨rfl, by show m.arrd + 1 ≤ _; omega⟩

theorem ScriptAt.belowW {w w' : World} {b off n : Nat} {X : SD} (h : ScriptAt w b off n X) (hb : b < w.heap.size) (hbel : Below w.heap.size w w') : ScriptAt w' b off n X := fun i hi => by
  obtain ⟨h0, h1, h2, h3, h4, h5, h6, h7⟩ := h i hi
  have c := fun q => hbel.cell (p := ⟨b, q, none⟩) hb
  exact ⟨(c _).trans h0, (c _).trans h1, (c _).trans h2, (c _).trans h3, h4, h5, h6, h7.below hbel⟩

theorem dems_rng {K N : Nat → Int} {L : Nat} (R : Nat → Int) (rn : Nat) (h : ∀ k, k < L → K k = 1 → 1 ≤ N k ∧ N k ≤ 100) : ∀ i, i < (demsOf K N L R rn).length → 1 ≤ (demsOf K N L R rn).getD i 0 ∧ (demsOf K N L R rn).getD i 0 ≤ 100 := by
  intro i hi
  have hi' : i < (compsTo K N L).length := by
    rw [demsOf_len] at hi
    rw [comps_len]; exact hi
  have hc : 1 ≤ (compsTo K N L).getD i 0 ∧ (compsTo K N L).getD i 0 ≤ 100 := comps_range L h _ (by
    rw [List.getD_eq_getElem?_getD, List.getElem?_eq_getElem hi']
    exact List.getElem_mem hi')
  have hp := pickI_range (c := R i) hc.1
  unfold demsOf
  rw [demsK_get _ _ _ _ hi']
  split <;> omega

theorem sumL_range {l : List Int} (h : ∀ i, i < l.length → 1 ≤ l.getD i 0 ∧ l.getD i 0 ≤ 100) : ∀ i, i ≤ l.length → 0 ≤ sumL (l.take i) ∧ sumL (l.take i) ≤ 100 * (i : Int)
  | 0, _ => by simp [sumL]
  | i + 1, hi => by
    have ih := sumL_range h i (by omega)
    have hl := h i (by omega)
    rw [sumL_snoc l i (by omega)]
    omega

end Go.Proofs.Ytdabcflpcklfiaa
