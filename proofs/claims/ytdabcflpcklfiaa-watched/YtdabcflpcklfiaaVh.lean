import Derived.Test.YtdabcflpcklfiaaRa
import Derived.Test.YtdabcflpcklfiaaVf
/- Where the law's own runs lie. -/
namespace Go.Proofs.Ytdabcflpcklfiaa
open Go.RowKit Cad

structure WL where
  wb : Nat
  rb : Nat
  sv : Nat → Value
  jb : Nat → Nat → Nat
  V : Nat → Nat → Nat → Value

def rcell (t : Nat) (x : Wr) (V : Nat → Value) (q : Nat) : Value :=
  if q = 0 then .int .i64 t else if q = 1 then .int .i64 x.ready else if q = 2 then V 0 else if q = 3 then .int .i64 x.step else if q = 4 then V 1 else if q = 5 then V 2 else if q = 6 then .int .i64 x.bk else .int .i64 x.fr

def wcell (kb n : Nat) (tv pv : Value) (rb : Nat) (u : Wt) (q : Nat) : Value :=
  if q = 0 then .pointer (some ⟨kb, 0, none⟩) else if q = 1 then tv else if q = 2 then pv else if q = 3 then .slice (some ⟨rb, 0, none⟩) n n else if q = 4 then .int .i64 u.now else if q = 5 then .int .i64 u.idle else if q = 6 then .int .i64 u.given else .int .i64 u.asked

def ints (l : List Int) : List Value := l.map (Value.int .i64)
def lst (x : Wr) (c : Nat) : List Int := if c = 0 then x.left else if c = 1 then x.held else x.since
def ptrs (Y : WL) (t d k : Nat) : List Value := (List.range k).map fun i => .pointer (some ⟨Y.jb t (d + i), 0, none⟩)

theorem ptrs_len (Y : WL) (t d k : Nat) : (ptrs Y t d k).length = k := by simp [ptrs]
theorem ptrs_get (Y : WL) (t d : Nat) {k i : Nat} (h : i < k) : (ptrs Y t d k)[i]? = some (.pointer (some ⟨Y.jb t (d + i), 0, none⟩)) := by simp [ptrs, h]

/-- The law's watch in memory. -/
structure WAt (w : World) (B n kb : Nat) (tv pv : Value) (u : Wt) (dn : Nat → Nat) (Y : WL) : Prop where
  wrow : w.rowIs Y.wb 90 8 (wcell kb n tv pv Y.rb u)
  rrow : w.rowIs Y.rb 95 n Y.sv
  srow : ∀ t, t < n → SL 92 w B (Y.sv t) (ptrs Y t (dn t) (u.runs t).length)
  jrow : ∀ t, t < n → ∀ (i : Nat) (x : Wr), (u.runs t)[i]? = some x → w.rowIs (Y.jb t (dn t + i)) 94 8 (rcell t x (fun c => Y.V c t (dn t + i)))
  irow : ∀ t, t < n → ∀ (i : Nat) (x : Wr), (u.runs t)[i]? = some x → ∀ c, c < 3 → SL 3 w B (Y.V c t (dn t + i)) (ints (lst x c))
  lo : B ≤ Y.wb ∧ B ≤ Y.rb ∧ ∀ t, t < n → ∀ i, i < (u.runs t).length → B ≤ Y.jb t (dn t + i)

def wlive (n : Nat) (u : Wt) (dn : Nat → Nat) (t k : Nat) : Prop := t < n ∧ dn t ≤ k ∧ k < dn t + (u.runs t).length

/-- No two of its blocks are one. -/
structure WSep (n : Nat) (u : Wt) (dn : Nat → Nat) (Y : WL) : Prop where
  sl : ∀ t t' b, t < n → t' < n → (Y.sv t).ownBlock = some b → (Y.sv t').ownBlock = some b → t = t'
  jb : ∀ t k t' k', wlive n u dn t k → wlive n u dn t' k' → Y.jb t k = Y.jb t' k' → t = t' ∧ k = k'
  iv : ∀ c t k c' t' k' b, c < 3 → c' < 3 → wlive n u dn t k → wlive n u dn t' k' → (Y.V c t k).ownBlock = some b → (Y.V c' t' k').ownBlock = some b → c = c' ∧ t = t' ∧ k = k'

def footW (n : Nat) (u : Wt) (dn : Nat → Nat) (Y : WL) (b : Nat) : Prop :=
  b = Y.wb ∨ b = Y.rb ∨ (∃ t, t < n ∧ (Y.sv t).ownBlock = some b) ∨ (∃ t k, wlive n u dn t k ∧ b = Y.jb t k) ∨ (∃ c t k, c < 3 ∧ wlive n u dn t k ∧ (Y.V c t k).ownBlock = some b)

theorem wlive_get {n : Nat} {u : Wt} {dn : Nat → Nat} {t i : Nat} {x : Wr} (ht : t < n) (h : (u.runs t)[i]? = some x) : wlive n u dn t (dn t + i) := by
  have := (List.getElem?_eq_some_iff.1 h).1
  exact ⟨ht, by omega, by omega⟩

theorem get_wlive {n : Nat} {u : Wt} {dn : Nat → Nat} {t k : Nat} (h : wlive n u dn t k) : ∃ i x, k = dn t + i ∧ (u.runs t)[i]? = some x := by
  obtain ⟨h1, h2, h3⟩ := h
  exact ⟨k - dn t, _, by omega, List.getElem?_eq_getElem (by omega)⟩

theorem WAt.same {w w' : World} {B n kb : Nat} {tv pv : Value} {u : Wt} {dn : Nat → Nat} {Y : WL} (h : WAt w B n kb tv pv u dn Y) (hb : ∀ b, footW n u dn Y b → w'.heap[b]? = w.heap[b]?) : WAt w' B n kb tv pv u dn Y where
  wrow := h.wrow.of_block (hb _ (.inl rfl))
  rrow := h.rrow.of_block (hb _ (.inr (.inl rfl)))
  srow t ht := (h.srow t ht).of_block (fun b g => hb b (.inr (.inr (.inl ⟨t, ht, g⟩))))
  jrow t ht i x hx := (h.jrow t ht i x hx).of_block (hb _ (.inr (.inr (.inr (.inl ⟨t, _, wlive_get ht hx, rfl⟩)))))
  irow t ht i x hx c hc := (h.irow t ht i x hx c hc).of_block (fun b g => hb b (.inr (.inr (.inr (.inr ⟨c, t, _, hc, wlive_get ht hx, g⟩)))))
  lo := h.lo

theorem WAt.foot_lt {w : World} {B n kb : Nat} {tv pv : Value} {u : Wt} {dn : Nat → Nat} {Y : WL} (h : WAt w B n kb tv pv u dn Y) {b : Nat} (hf : footW n u dn Y b) : B ≤ b ∧ b < w.heap.size := by
  rcases hf with rfl | rfl | ⟨t, ht, g⟩ | ⟨t, k, hl, rfl⟩ | ⟨c, t, k, hc, hl, g⟩
  · exact ⟨h.lo.1, h.wrow.lt⟩
  · exact ⟨h.lo.2.1, h.rrow.lt⟩
  · exact (h.srow t ht).lt b g
  · obtain ⟨i, x, rfl, hx⟩ := get_wlive hl
    exact ⟨h.lo.2.2 t hl.1 i (List.getElem?_eq_some_iff.1 hx).1, (h.jrow t hl.1 i x hx).lt⟩
  · obtain ⟨i, x, rfl, hx⟩ := get_wlive hl
    exact (h.irow t hl.1 i x hx c hc).lt b g

theorem WAt.below {w w' : World} {B n kb : Nat} {tv pv : Value} {u : Wt} {dn : Nat → Nat} {Y : WL} (h : WAt w B n kb tv pv u dn Y) (hb : Below w.heap.size w w') : WAt w' B n kb tv pv u dn Y := h.same (fun b hf => hb.block b (h.foot_lt hf).2)

/-- With the values of one run changed. -/
def setY (Y : WL) (t k : Nat) (Vn : Nat → Value) : WL := { Y with V := fun c a q => if a = t ∧ q = k then Vn c else Y.V c a q }

/-- With one run changed. -/
def setR (u : Wt) (t i : Nat) (x : Wr) : Wt := { u with runs := upd u.runs t ((u.runs t).set i x) }

theorem setR_len (u : Wt) (t i : Nat) (x : Wr) (a : Nat) : ((setR u t i x).runs a).length = (u.runs a).length := by
  show (upd u.runs t ((u.runs t).set i x) a).length = _
  unfold upd
  split
  · rename_i e; rw [e, List.length_set]
  · rfl

theorem setR_live {n : Nat} {u : Wt} {dn : Nat → Nat} {t i : Nat} {x : Wr} {a k : Nat} : wlive n (setR u t i x) dn a k ↔ wlive n u dn a k := by
  unfold wlive
  rw [setR_len]

theorem setR_get {u : Wt} {t i : Nat} {x0 x : Wr} (h0 : (u.runs t)[i]? = some x0) {a q : Nat} {y : Wr} (h : ((setR u t i x).runs a)[q]? = some y) : (a = t ∧ q = i ∧ y = x) ∨ ((a ≠ t ∨ q ≠ i) ∧ (u.runs a)[q]? = some y) := by
  have h' : (upd u.runs t ((u.runs t).set i x) a)[q]? = some y := h
  by_cases ea : a = t
  · subst ea
    rw [upd_same, List.getElem?_set] at h'
    by_cases ei : i = q
    · subst ei
      have := (List.getElem?_eq_some_iff.1 h0).1
      rw [if_pos rfl, if_pos this] at h'
      cases h'
      exact .inl ⟨rfl, rfl, rfl⟩
    · rw [if_neg ei] at h'
      exact .inr ⟨.inr (fun e => ei e.symm), h'⟩
  · rw [upd_other _ _ ea] at h'
    exact .inr ⟨.inl ea, h'⟩

/-- One run is written. -/
theorem WAt.updRun {w w' : World} {B n kb : Nat} {tv pv : Value} {u : Wt} {dn : Nat → Nat} {Y : WL} (h : WAt w B n kb tv pv u dn Y) (hs : WSep n u dn Y) {t i : Nat} {x x' : Wr} {Vn : Nat → Value} (ht : t < n) (hx : (u.runs t)[i]? = some x)
    (hf : Fr (fun q => q = Y.jb t (dn t + i) ∨ ∃ c, c < 3 ∧ (Y.V c t (dn t + i)).ownBlock = some q) w w') (hrow : w'.rowIs (Y.jb t (dn t + i)) 94 8 (rcell t x' Vn)) (hi : ∀ c, c < 3 → SL 3 w' B (Vn c) (ints (lst x' c)))
    (hn : ∀ c, c < 3 → ∀ b, (Vn c).ownBlock = some b → (Y.V c t (dn t + i)).ownBlock = some b ∨ w.heap.size ≤ b) (hd : ∀ c c' b, c < 3 → c' < 3 → (Vn c).ownBlock = some b → (Vn c').ownBlock = some b → c = c') :
    WAt w' B n kb tv pv (setR u t i x') dn (setY Y t (dn t + i) Vn) ∧ WSep n (setR u t i x') dn (setY Y t (dn t + i) Vn) ∧ ∀ b, footW n (setR u t i x') dn (setY Y t (dn t + i) Vn) b → footW n u dn Y b ∨ w.heap.size ≤ b := by
  have hl := wlive_get (n := n) (dn := dn) ht hx
  have hjr := h.jrow t ht i x hx
  have hX : ∀ b T N F, w.rowIs b T N F → T ≠ 94 → T ≠ 3 → ¬ (b = Y.jb t (dn t + i) ∨ ∃ c, c < 3 ∧ (Y.V c t (dn t + i)).ownBlock = some b) := by
    rintro b T N F hr h1 h2 (e | ⟨c, hc, e⟩)
    · exact row_ne hr hjr h1 e
    · exact (h.irow t ht i x hx c hc).ne hr h2 e
  have hVo : ∀ c a q, ¬ (a = t ∧ q = dn t + i) → (setY Y t (dn t + i) Vn).V c a q = Y.V c a q := fun c a q e => if_neg e
  have hVs : ∀ c, (setY Y t (dn t + i) Vn).V c t (dn t + i) = Vn c := fun c => if_pos ⟨rfl, rfl⟩
  refine ⟨⟨?_, ?_, fun a ha => ?_, fun a ha q y hy => ?_, fun a ha q y hy c hc => ?_, ?_⟩, ⟨hs.sl, fun a k a' k' h1 h2 e => ?_, fun c a k c' a' k' b hc hc' h1 h2 e1 e2 => ?_⟩, fun b hb => ?_⟩
  · exact hf.row h.wrow (hX _ 90 _ _ h.wrow (by decide) (by decide))
  · exact hf.row h.rrow (hX _ 95 _ _ h.rrow (by decide) (by decide))
  · rw [setR_len]
    refine (h.srow a ha).of_block (fun b hb => ?_)
    have hlt := ((h.srow a ha).lt b hb).2
    refine hf.block b hlt (fun hc => ?_)
    rcases h.srow a ha with ⟨g, _⟩ | ⟨g, off, cap, sz, f, hv, _, hr, _⟩
    · rw [g] at hb; cases hb
    · rw [hv] at hb; cases hb
      exact hX _ 92 _ _ hr (by decide) (by decide) hc
  · rcases setR_get hx hy with ⟨rfl, rfl, rfl⟩ | ⟨hne, hy'⟩
    · have e : (fun c => (setY Y a (dn a + q) Vn).V c a (dn a + q)) = Vn := funext hVs
      rw [e]
      exact hrow
    · have hne' : ¬ (a = t ∧ dn a + q = dn t + i) := by
        rintro ⟨rfl, e⟩
        rcases hne with g | g
        · exact g rfl
        · exact g (by omega)
      have e : (fun c => (setY Y t (dn t + i) Vn).V c a (dn a + q)) = (fun c => Y.V c a (dn a + q)) := funext (fun c => hVo c a _ hne')
      rw [e]
      have hr := h.jrow a ha q y hy'
      refine hf.row hr (fun hc => ?_)
      rcases hc with g | ⟨c, hc, g⟩
      · exact hne' (hs.jb a _ t _ (wlive_get ha hy') hl g)
      · exact (h.irow t ht i x hx c hc).ne hr (by decide) g
  · rcases setR_get hx hy with ⟨rfl, rfl, rfl⟩ | ⟨hne, hy'⟩
    · rw [hVs]
      exact hi c hc
    · have hne' : ¬ (a = t ∧ dn a + q = dn t + i) := by
        rintro ⟨rfl, e⟩
        rcases hne with g | g
        · exact g rfl
        · exact g (by omega)
      rw [hVo c a _ hne']
      have hr := h.irow a ha q y hy' c hc
      refine hr.of_block (fun b hb => hf.block b (hr.lt b hb).2 (fun hc' => ?_))
      rcases hc' with g | ⟨c', hc', g⟩
      · rw [g] at hb
        exact hr.ne hjr (by decide) hb
      · have := hs.iv c a _ c' t _ b hc hc' (wlive_get ha hy') hl hb g
        exact hne' this.2
  · refine ⟨h.lo.1, h.lo.2.1, fun a ha q hq => ?_⟩
    rw [setR_len] at hq
    exact h.lo.2.2 a ha q hq
  · exact hs.jb a k a' k' (setR_live.1 h1) (setR_live.1 h2) e
  · have l1 := setR_live.1 h1
    have l2 := setR_live.1 h2
    have old : ∀ c a k b, c < 3 → wlive n u dn a k → (Y.V c a k).ownBlock = some b → b < w.heap.size := fun c a k b hc hl hb => (h.foot_lt (.inr (.inr (.inr (.inr ⟨c, a, k, hc, hl, hb⟩))))).2
    by_cases g1 : a = t ∧ k = dn t + i
    · obtain ⟨rfl, rfl⟩ := g1
      rw [hVs] at e1
      by_cases g2 : a' = a ∧ k' = dn a + i
      · obtain ⟨rfl, rfl⟩ := g2
        rw [hVs] at e2
        exact ⟨hd c c' b hc hc' e1 e2, rfl, rfl⟩
      · rw [hVo c' a' k' g2] at e2
        rcases hn c hc b e1 with g | g
        · have := hs.iv c a _ c' a' k' b hc hc' hl l2 g e2
          exact absurd ⟨this.2.1.symm, this.2.2.symm⟩ g2
        · have := old c' a' k' b hc' l2 e2; omega
    · rw [hVo c a k g1] at e1
      by_cases g2 : a' = t ∧ k' = dn t + i
      · obtain ⟨rfl, rfl⟩ := g2
        rw [hVs] at e2
        rcases hn c' hc' b e2 with g | g
        · have := hs.iv c a k c' a' _ b hc hc' l1 hl e1 g
          exact absurd this.2 g1
        · have := old c a k b hc l1 e1; omega
      · rw [hVo c' a' k' g2] at e2
        exact hs.iv c a k c' a' k' b hc hc' l1 l2 e1 e2
  · rcases hb with g | g | g | ⟨a, k, hl', g⟩ | ⟨c, a, k, hc, hl', g⟩
    · exact .inl (.inl g)
    · exact .inl (.inr (.inl g))
    · exact .inl (.inr (.inr (.inl g)))
    · exact .inl (.inr (.inr (.inr (.inl ⟨a, k, setR_live.1 hl', g⟩))))
    · by_cases e : a = t ∧ k = dn t + i
      · obtain ⟨rfl, rfl⟩ := e
        rw [hVs] at g
        rcases hn c hc b g with g1 | g1
        · exact .inl (.inr (.inr (.inr (.inr ⟨c, a, _, hc, hl, g1⟩))))
        · exact .inr g1
      · rw [hVo c a k e] at g
        exact .inl (.inr (.inr (.inr (.inr ⟨c, a, k, hc, setR_live.1 hl', g⟩))))

/-- The watch's own numbers are written. -/
theorem WAt.setW {w : World} {B n kb : Nat} {tv pv : Value} {u : Wt} {dn : Nat → Nat} {Y : WL} (h : WAt w B n kb tv pv u dn Y) {q : Nat} {x : Int} {u' : Wt} (hr : u'.runs = u.runs) (hc : ∀ p, p < 8 → wcell kb n tv pv Y.rb u' p = if p = q then .int .i64 x else wcell kb n tv pv Y.rb u p) :
    WAt (w.setCell ⟨Y.wb, q, none⟩ (.int .i64 x)) B n kb tv pv u' dn Y := by
  have hne : ∀ b T N F, w.rowIs b T N F → T ≠ 90 → b ≠ Y.wb := fun b T N F hb hT => row_ne hb h.wrow hT
  refine ⟨(h.wrow.set q _).congr (fun p hp => (hc p hp).symm), h.rrow.setOther (by simpa using hne _ _ _ _ h.rrow (by decide)) _, fun t ht => ?_, fun t ht i y hy => ?_, fun t ht i y hy c hc => ?_, ?_⟩
  · rw [hr]
    refine (h.srow t ht).of_block (fun b hb => Deep.blk_setCell_other _ _ _ _ (fun e => ?_))
    have e' : b = Y.wb := e
    rw [e'] at hb
    exact (h.srow t ht).ne h.wrow (by decide) hb
  · rw [hr] at hy
    have hj := h.jrow t ht i y hy
    exact hj.setOther (by simpa using hne _ _ _ _ hj (by decide)) _
  · rw [hr] at hy
    refine (h.irow t ht i y hy c hc).of_block (fun b hb => Deep.blk_setCell_other _ _ _ _ (fun e => ?_))
    have e' : b = Y.wb := e
    rw [e'] at hb
    exact (h.irow t ht i y hy c hc).ne h.wrow (by decide) hb
  · rw [hr]; exact h.lo

end Go.Proofs.Ytdabcflpcklfiaa
