import Derived.Test.YtdabcflpcklfiaaGreatSd
import Derived.Laws.IdiomCopy
import Derived.Laws.Append
import Derived.Test.YtdabcflpcklfiaaGreatVt
/- Lists of the law's own, that are cut and appended to. -/
namespace Go.Proofs.YtdabcflpcklfiaaGreat
open Go.RowKit Cad

/-- A slice of one-cell elements of type e, in a block of the law's own. -/
def SL (e : Nat) (w : World) (B : Nat) (v : Value) (l : List Value) : Prop :=
  (v = .slice none 0 0 ∧ l = []) ∨ ∃ g off cap sz f, v = .slice (some ⟨g, off, none⟩) l.length cap ∧ B ≤ g ∧ w.rowIs g e sz f ∧ off + cap ≤ sz ∧ l.length ≤ cap ∧ ∀ (i : Nat) (x : Value), l[i]? = some x → f (off + i) = x

theorem SL.of_block {e : Nat} {w w' : World} {B : Nat} {v : Value} {l : List Value} (h : SL e w B v l) (hb : ∀ b, v.ownBlock = some b → w'.heap[b]? = w.heap[b]?) : SL e w' B v l := by
  rcases h with h | ⟨g, off, cap, sz, f, rfl, h1, h2, h3⟩
  · exact .inl h
  · exact .inr ⟨g, off, cap, sz, f, rfl, h1, h2.of_block (hb g rfl), h3⟩

theorem SL.lt {e : Nat} {w : World} {B : Nat} {v : Value} {l : List Value} (h : SL e w B v l) : ∀ b, v.ownBlock = some b → B ≤ b ∧ b < w.heap.size := by
  rcases h with ⟨rfl, _⟩ | ⟨g, off, cap, sz, f, rfl, h1, h2, _⟩
  · intro b hb; cases hb
  · intro b hb; cases hb; exact ⟨h1, h2.lt⟩

theorem SL.shape {e : Nat} {w : World} {B : Nat} {v : Value} {l : List Value} (h : SL e w B v l) : ∃ ao cap, v = .slice ao l.length cap := by
  rcases h with ⟨rfl, rfl⟩ | ⟨g, off, cap, sz, f, rfl, _⟩
  · exact ⟨_, _, rfl⟩
  · exact ⟨_, _, rfl⟩

/-- Another kind of block is none of its. -/
theorem SL.ne {e t : Nat} {w : World} {B b n : Nat} {v : Value} {l : List Value} {f : Nat → Value} (h : SL e w B v l) (hr : w.rowIs b t n f) (hne : t ≠ e) : v.ownBlock ≠ some b := by
  rcases h with ⟨rfl, _⟩ | ⟨g, off, cap, sz, f', rfl, h1, h2, _⟩
  · exact nofun
  · intro hb
    cases hb
    exact row_ne hr h2 hne rfl

/-- What lies in it. -/
theorem SL.cell {e : Nat} {w : World} {B ao_b off cap n : Nat} {l : List Value} (h : SL e w B (.slice (some ⟨ao_b, off, none⟩) n cap) l) {i : Nat} {x : Value} (hi : l[i]? = some x) : w.cell? ⟨ao_b, off + i, none⟩ = some x ∧ w.frozen? ⟨ao_b, off + i, none⟩ = false := by
  rcases h with ⟨h, _⟩ | ⟨g, off', cap', sz, f, h, h1, h2, h3, h4, h5⟩
  · cases h
  · cases h
    have hl := (List.getElem?_eq_some_iff.1 hi).1
    exact ⟨by rw [h2.cell (by omega), h5 i x hi], h2.frozen _⟩

theorem SL.isSl {e : Nat} {w : World} {B : Nat} {v : Value} {a : Value} {l : List Value} (h : SL e w B v (a :: l)) : ∃ g off cap, v = .slice (some ⟨g, off, none⟩) (l.length + 1) cap ∧ B ≤ g ∧ l.length + 1 ≤ cap := by
  rcases h with ⟨_, h⟩ | ⟨g, off, cap, sz, f, rfl, h1, h2, h3, h4, h5⟩
  · cases h
  · exact ⟨g, off, cap, rfl, h1, by simpa using h4⟩

/-- Cut from the front. -/
theorem SL.tail {e : Nat} {w : World} {B g off cap : Nat} {a : Value} {l : List Value} (h : SL e w B (.slice (some ⟨g, off, none⟩) (l.length + 1) cap) (a :: l)) : SL e w B (.slice (some ⟨g, if cap = 1 then off else off + 1, none⟩) l.length (cap - 1)) l := by
  rcases h with ⟨h, _⟩ | ⟨g', off', cap', sz, f, h, h1, h2, h3, h4, h5⟩
  · cases h
  · cases h
    simp only [List.length_cons] at h4
    refine .inr ⟨g, _, _, sz, f, rfl, h1, h2, ?_, by omega, fun i x hx => ?_⟩
    · split <;> omega
    · have hl := (List.getElem?_eq_some_iff.1 hx).1
      rw [if_neg (by omega), Nat.add_assoc, Nat.add_comm 1 i]
      exact h5 (i + 1) x (by simpa using hx)

/-- Cut from the end. -/
theorem SL.init {e : Nat} {w : World} {B g off cap n : Nat} {l : List Value} (h : SL e w B (.slice (some ⟨g, off, none⟩) n cap) l) (k : Nat) : SL e w B (.slice (some ⟨g, off, none⟩) (l.take k).length cap) (l.take k) := by
  rcases h with ⟨h, _⟩ | ⟨g', off', cap', sz, f, h, h1, h2, h3, h4, h5⟩
  · cases h
  · cases h
    refine .inr ⟨g, off, cap, sz, f, rfl, h1, h2, h3, by rw [List.length_take]; omega, fun i x hx => h5 i x ?_⟩
    rw [List.getElem?_take] at hx
    split at hx
    · exact hx
    · cases hx

/-- One of its elements is written. -/
theorem SL.set {e : Nat} {w : World} {B g off cap n : Nat} {l : List Value} (h : SL e w B (.slice (some ⟨g, off, none⟩) n cap) l) (i : Nat) (x : Value) : SL e (w.setCell ⟨g, off + i, none⟩ x) B (.slice (some ⟨g, off, none⟩) n cap) (l.set i x) := by
  rcases h with ⟨h, _⟩ | ⟨g', off', cap', sz, f, h, h1, h2, h3, h4, h5⟩
  · cases h
  · cases h
    refine .inr ⟨g, off, cap, sz, _, by rw [List.length_set], h1, h2.set (off + i) x, h3, by rw [List.length_set]; exact h4, fun k y hy => ?_⟩
    rw [List.getElem?_set] at hy
    by_cases e : i = k
    · subst e
      rw [if_pos rfl] at hy
      split at hy
      · cases hy; simp
      · cases hy
    · rw [if_neg e] at hy
      show (if off + k = off + i then x else f (off + k)) = y
      rw [if_neg (by omega)]
      exact h5 k y hy

theorem row_new {w : World} {e n : Nat} {cur : Array Value} (hs : cur.size = n) : ((w.drew).alloc (.cells cur e)).rowIs w.heap.size e n (fun q => cur.toList.getD q (.int .i64 0)) := by
  have := World.rowIs_alloc w.drew cur e (fun q => cur.toList.getD q (.int .i64 0)) (fun i hi => by simp [List.getD, hi])
  rw [hs] at this
  exact this

/-- append, of one element. -/
theorem run_append_sl {e t ty : Nat} {i : TypeInfo} {z : Value} (ht : Tryz.prog.underlying t = some (.slice e)) (hi : Tryz.prog.info? e = some i) (hz : i.zero = some z) (hs : i.size = 1) (hb8 : i.bytes = 8) (hzc : z.cells.size = 1) {w : World} {B : Nat} {v : Value} {l : List Value} (h : SL e w B v l) (hl : l.length ≤ 1000) (hB : B ≤ w.heap.size) {ad : Addr} {c : Nat} {p : Value} (hp : w.cell? ad = some p) (h1 : p.oneCell' = true) :
    ∃ v' w', (Builtin.append_ #[t, t] ty #[v, .slice (some ad) 1 c]).run Tryz.prog w = .ok v' w' ∧ SL e w' B v' (l ++ [p]) ∧ Fr (fun q => v.ownBlock = some q) w w' ∧ (∀ b, v'.ownBlock = some b → v.ownBlock = some b ∨ w.heap.size ≤ b) := by
  have hnews : ∀ j u, ([p] : List Value)[j]? = some u → w.cell? (ad.add j) = some u := fun j u hu => by
    cases j with
    | zero => simp at hu; subst hu; exact hp
    | succ j => simp at hu
  rcases h with ⟨rfl, rfl⟩ | ⟨g, off, cap, sz, f, rfl, hg, hr, hsz, hlc, hf⟩
  · have hrun := run_append_nil (P := Tryz.prog) w t ty e i z ht hi hz ad 1 c [p] (by rw [hs]; rfl) hnews (by omega) (by omega) (by rw [hb8]; omega)
    have hge := grownCap_ge w 1 0 e
    refine ⟨_, _, hrun, .inr ⟨w.heap.size, 0, grownCap w 1 0 e, grownCap w 1 0 e, _, rfl, hB, row_new (by simp [size_zeroCells, hzc]; omega), by omega, by simpa using hge, fun k x hx => ?_⟩, (Fr.refl _ w).drew.alloc _, fun b hb => ?_⟩
    · cases k with
      | zero => simp at hx; subst hx; simp
      | succ k => simp at hx
    · cases hb; exact .inr (Nat.le_refl _)
  · by_cases hroom : l.length + 1 ≤ cap
    · have hst : (w.cell? ⟨g, off + l.length, none⟩) = some (f (off + l.length)) := hr.cell (by omega)
      have hfz := hr.frozen (off + l.length)
      have hfirst := run_firstCells_some (P := Tryz.prog) w 1 1 ad 1 c [p] rfl hnews
      have hstore := run_storeCells_cells (P := Tryz.prog) g (off + l.length) [p] 0 w (fun j hj => by have : j = 0 := (by simpa using hj); subst this; simp [hst]) (fun j hj => by have : j = 0 := (by simpa using hj); subst this; simpa using hfz) (fun u hu => by simp at hu; subst hu; exact h1)
      refine ⟨.slice (some ⟨g, off, none⟩) (l ++ [p]).length cap, w.setCell ⟨g, off + l.length, none⟩ p, ?_, ?_, (Fr.refl (fun q => (Value.slice (some ⟨g, off, none⟩) l.length cap).ownBlock = some q) w).setCell (a := ⟨g, off + l.length, none⟩) (.inl rfl) _, fun b hb => .inl hb⟩
      · simp only [Nat.add_zero] at hstore
        simp [Builtin.append_, run_underlying ht, sizeOf, typeInfo, hi, hs, Builtin.lenOf, hroom, hfirst, Addr.add_lit, hstore, World.setCells]
      · refine .inr ⟨g, off, cap, sz, _, rfl, hg, hr.set (off + l.length) p, hsz, by simpa using hroom, fun k x hx => ?_⟩
        by_cases hk : k < l.length
        · rw [List.getElem?_append_left hk] at hx
          show (if off + k = off + l.length then p else f (off + k)) = x
          rw [if_neg (by omega)]
          exact hf k x hx
        · rw [List.getElem?_append_right (by omega)] at hx
          cases hd : k - l.length with
          | zero =>
            rw [hd] at hx
            simp at hx
            subst hx
            have : k = l.length := by omega
            subst this
            simp
          | succ q => rw [hd] at hx; simp at hx
    · have hcap : cap = l.length := by omega
      have hold : ∀ j v, l[j]? = some v → w.cell? ((⟨g, off, none⟩ : Addr).add j) = some v := fun j v hv => by
        have hj := (List.getElem?_eq_some_iff.1 hv).1
        rw [Addr.add_lit, hr.cell (by omega), hf j v hv]
      have hrun := run_append_grow (P := Tryz.prog) w t ty e i z ht hi hz ⟨g, off, none⟩ l.length cap l (by rw [hs, Nat.mul_one]) hold ad 1 c [p] (by rw [hs]; rfl) hnews (by omega) (by omega) (growslice_fits (by omega) (by rw [hb8]; omega))
      have hge := grownCap_ge w (l.length + 1) cap e
      refine ⟨_, _, hrun, .inr ⟨w.heap.size, 0, grownCap w (l.length + 1) cap e, grownCap w (l.length + 1) cap e, _, by simp, hB, row_new (by simp [size_zeroCells, hzc]; omega), by omega, by simpa using hge, fun k x hx => ?_⟩, (Fr.refl _ w).drew.alloc _, fun b hb => ?_⟩
      · have hk := (List.getElem?_eq_some_iff.1 hx).1
        simp only [List.append_toArray, Nat.zero_add] 
        simp only [List.getD_eq_getElem?_getD]
        have : ((l ++ [p]).toArray ++ Builtin.zeroCells z.cells (grownCap w (l.length + 1) cap e - (l.length + 1))).toList[k]? = some x := by
          simp only [Array.toList_append]
          rw [List.getElem?_append_left (by simpa using hk)]
          simpa using hx
        rw [this]; rfl
      · cases hb; exact .inr (Nat.le_refl _)

end Go.Proofs.YtdabcflpcklfiaaGreat

/- Where the law's own runs lie. -/
namespace Go.Proofs.YtdabcflpcklfiaaGreat
open Go.RowKit Cad

structure WL where
  wb : Nat
  rb : Nat
  sv : Nat → Value
  jb : Nat → Nat → Nat
  V : Nat → Nat → Nat → Value

def rcell (t : Nat) (x : Wr) (V : Nat → Value) (q : Nat) : Value :=
  if q = 0 then .int .i64 t else if q = 1 then .int .i64 x.ready else if q = 2 then V 0 else if q = 3 then .int .i64 x.step else if q = 4 then V 1 else if q = 5 then V 2 else if q = 6 then .int .i64 x.bk else .int .i64 x.fr

def wcell (kb n : Nat) (tv pv : Value) (rb : Nat) (u : Wt) (q : Nat) : Value :=
  if q = 0 then .pointer (some ⟨kb, 0, none⟩) else if q = 1 then tv else if q = 2 then pv else if q = 3 then .slice (some ⟨rb, 0, none⟩) n n else if q = 4 then .int .i64 u.now else if q = 5 then .int .i64 u.idle else if q = 6 then .int .i64 u.given else .int .i64 u.asked

def ints (l : List Int) : List Value := l.map (Value.int .i64)
def lst (x : Wr) (c : Nat) : List Int := if c = 0 then x.left else if c = 1 then x.held else x.since
def ptrs (Y : WL) (t d k : Nat) : List Value := (List.range k).map fun i => .pointer (some ⟨Y.jb t (d + i), 0, none⟩)

theorem ptrs_len (Y : WL) (t d k : Nat) : (ptrs Y t d k).length = k := by simp [ptrs]
theorem ptrs_get (Y : WL) (t d : Nat) {k i : Nat} (h : i < k) : (ptrs Y t d k)[i]? = some (.pointer (some ⟨Y.jb t (d + i), 0, none⟩)) := by simp [ptrs, h]

/-- The law's watch in memory. -/
structure WAt (w : World) (B n kb : Nat) (tv pv : Value) (u : Wt) (dn : Nat → Nat) (Y : WL) : Prop where
  wrow : w.rowIs Y.wb 71 8 (wcell kb n tv pv Y.rb u)
  rrow : w.rowIs Y.rb 81 n Y.sv
  srow : ∀ t, t < n → SL 78 w B (Y.sv t) (ptrs Y t (dn t) (u.runs t).length)
  jrow : ∀ t, t < n → ∀ (i : Nat) (x : Wr), (u.runs t)[i]? = some x → w.rowIs (Y.jb t (dn t + i)) 80 8 (rcell t x (fun c => Y.V c t (dn t + i)))
  irow : ∀ t, t < n → ∀ (i : Nat) (x : Wr), (u.runs t)[i]? = some x → ∀ c, c < 3 → SL 3 w B (Y.V c t (dn t + i)) (ints (lst x c))
  lo : B ≤ Y.wb ∧ B ≤ Y.rb ∧ ∀ t, t < n → ∀ i, i < (u.runs t).length → B ≤ Y.jb t (dn t + i)

def wlive (n : Nat) (u : Wt) (dn : Nat → Nat) (t k : Nat) : Prop := t < n ∧ dn t ≤ k ∧ k < dn t + (u.runs t).length

/-- No two of its blocks are one. -/
structure WSep (n : Nat) (u : Wt) (dn : Nat → Nat) (Y : WL) : Prop where
  sl : ∀ t t' b, t < n → t' < n → (Y.sv t).ownBlock = some b → (Y.sv t').ownBlock = some b → t = t'
  jb : ∀ t k t' k', wlive n u dn t k → wlive n u dn t' k' → Y.jb t k = Y.jb t' k' → t = t' ∧ k = k'
  iv : ∀ c t k c' t' k' b, c < 3 → c' < 3 → wlive n u dn t k → wlive n u dn t' k' → (Y.V c t k).ownBlock = some b → (Y.V c' t' k').ownBlock = some b → c = c' ∧ t = t' ∧ k = k'

def footW (n : Nat) (u : Wt) (dn : Nat → Nat) (Y : WL) (b : Nat) : Prop :=
  b = Y.wb ∨ b = Y.rb ∨ (∃ t, t < n ∧ (Y.sv t).ownBlock = some b) ∨ (∃ t k, wlive n u dn t k ∧ b = Y.jb t k) ∨ (∃ c t k, c < 3 ∧ wlive n u dn t k ∧ (Y.V c t k).ownBlock = some b)

theorem wlive_get {n : Nat} {u : Wt} {dn : Nat → Nat} {t i : Nat} {x : Wr} (ht : t < n) (h : (u.runs t)[i]? = some x) : wlive n u dn t (dn t + i) := by
  have := (List.getElem?_eq_some_iff.1 h).1
  exact ⟨ht, by omega, by omega⟩

theorem get_wlive {n : Nat} {u : Wt} {dn : Nat → Nat} {t k : Nat} (h : wlive n u dn t k) : ∃ i x, k = dn t + i ∧ (u.runs t)[i]? = some x := by
  obtain ⟨h1, h2, h3⟩ := h
  exact ⟨k - dn t, _, by omega, List.getElem?_eq_getElem (by omega)⟩

theorem WAt.same {w w' : World} {B n kb : Nat} {tv pv : Value} {u : Wt} {dn : Nat → Nat} {Y : WL} (h : WAt w B n kb tv pv u dn Y) (hb : ∀ b, footW n u dn Y b → w'.heap[b]? = w.heap[b]?) : WAt w' B n kb tv pv u dn Y where
  wrow := h.wrow.of_block (hb _ (.inl rfl))
  rrow := h.rrow.of_block (hb _ (.inr (.inl rfl)))
  srow t ht := (h.srow t ht).of_block (fun b g => hb b (.inr (.inr (.inl ⟨t, ht, g⟩))))
  jrow t ht i x hx := (h.jrow t ht i x hx).of_block (hb _ (.inr (.inr (.inr (.inl ⟨t, _, wlive_get ht hx, rfl⟩)))))
  irow t ht i x hx c hc := (h.irow t ht i x hx c hc).of_block (fun b g => hb b (.inr (.inr (.inr (.inr ⟨c, t, _, hc, wlive_get ht hx, g⟩)))))
  lo := h.lo

theorem WAt.foot_lt {w : World} {B n kb : Nat} {tv pv : Value} {u : Wt} {dn : Nat → Nat} {Y : WL} (h : WAt w B n kb tv pv u dn Y) {b : Nat} (hf : footW n u dn Y b) : B ≤ b ∧ b < w.heap.size := by
  rcases hf with rfl | rfl | ⟨t, ht, g⟩ | ⟨t, k, hl, rfl⟩ | ⟨c, t, k, hc, hl, g⟩
  · exact ⟨h.lo.1, h.wrow.lt⟩
  · exact ⟨h.lo.2.1, h.rrow.lt⟩
  · exact (h.srow t ht).lt b g
  · obtain ⟨i, x, rfl, hx⟩ := get_wlive hl
    exact ⟨h.lo.2.2 t hl.1 i (List.getElem?_eq_some_iff.1 hx).1, (h.jrow t hl.1 i x hx).lt⟩
  · obtain ⟨i, x, rfl, hx⟩ := get_wlive hl
    exact (h.irow t hl.1 i x hx c hc).lt b g

theorem WAt.below {w w' : World} {B n kb : Nat} {tv pv : Value} {u : Wt} {dn : Nat → Nat} {Y : WL} (h : WAt w B n kb tv pv u dn Y) (hb : Below w.heap.size w w') : WAt w' B n kb tv pv u dn Y := h.same (fun b hf => hb.block b (h.foot_lt hf).2)

/-- With the values of one run changed. -/
def setY (Y : WL) (t k : Nat) (Vn : Nat → Value) : WL := { Y with V := fun c a q => if a = t ∧ q = k then Vn c else Y.V c a q }

/-- With one run changed. -/
def setR (u : Wt) (t i : Nat) (x : Wr) : Wt := { u with runs := upd u.runs t ((u.runs t).set i x) }

theorem setR_len (u : Wt) (t i : Nat) (x : Wr) (a : Nat) : ((setR u t i x).runs a).length = (u.runs a).length := by
  show (upd u.runs t ((u.runs t).set i x) a).length = _
  unfold upd
  split
  · rename_i e; rw [e, List.length_set]
  · rfl

theorem setR_live {n : Nat} {u : Wt} {dn : Nat → Nat} {t i : Nat} {x : Wr} {a k : Nat} : wlive n (setR u t i x) dn a k ↔ wlive n u dn a k := by
  unfold wlive
  rw [setR_len]

theorem setR_get {u : Wt} {t i : Nat} {x0 x : Wr} (h0 : (u.runs t)[i]? = some x0) {a q : Nat} {y : Wr} (h : ((setR u t i x).runs a)[q]? = some y) : (a = t ∧ q = i ∧ y = x) ∨ ((a ≠ t ∨ q ≠ i) ∧ (u.runs a)[q]? = some y) := by
  have h' : (upd u.runs t ((u.runs t).set i x) a)[q]? = some y := h
  by_cases ea : a = t
  · subst ea
    rw [upd_same, List.getElem?_set] at h'
    by_cases ei : i = q
    · subst ei
      have := (List.getElem?_eq_some_iff.1 h0).1
      rw [if_pos rfl, if_pos this] at h'
      cases h'
      exact .inl ⟨rfl, rfl, rfl⟩
    · rw [if_neg ei] at h'
      exact .inr ⟨.inr (fun e => ei e.symm), h'⟩
  · rw [upd_other _ _ ea] at h'
    exact .inr ⟨.inl ea, h'⟩

/-- One run is written. -/
theorem WAt.updRun {w w' : World} {B n kb : Nat} {tv pv : Value} {u : Wt} {dn : Nat → Nat} {Y : WL} (h : WAt w B n kb tv pv u dn Y) (hs : WSep n u dn Y) {t i : Nat} {x x' : Wr} {Vn : Nat → Value} (ht : t < n) (hx : (u.runs t)[i]? = some x)
    (hf : Fr (fun q => q = Y.jb t (dn t + i) ∨ ∃ c, c < 3 ∧ (Y.V c t (dn t + i)).ownBlock = some q) w w') (hrow : w'.rowIs (Y.jb t (dn t + i)) 80 8 (rcell t x' Vn)) (hi : ∀ c, c < 3 → SL 3 w' B (Vn c) (ints (lst x' c)))
    (hn : ∀ c, c < 3 → ∀ b, (Vn c).ownBlock = some b → (Y.V c t (dn t + i)).ownBlock = some b ∨ w.heap.size ≤ b) (hd : ∀ c c' b, c < 3 → c' < 3 → (Vn c).ownBlock = some b → (Vn c').ownBlock = some b → c = c') :
    WAt w' B n kb tv pv (setR u t i x') dn (setY Y t (dn t + i) Vn) ∧ WSep n (setR u t i x') dn (setY Y t (dn t + i) Vn) ∧ ∀ b, footW n (setR u t i x') dn (setY Y t (dn t + i) Vn) b → footW n u dn Y b ∨ w.heap.size ≤ b := by
  have hl := wlive_get (n := n) (dn := dn) ht hx
  have hjr := h.jrow t ht i x hx
  have hX : ∀ b T N F, w.rowIs b T N F → T ≠ 80 → T ≠ 3 → ¬ (b = Y.jb t (dn t + i) ∨ ∃ c, c < 3 ∧ (Y.V c t (dn t + i)).ownBlock = some b) := by
    rintro b T N F hr h1 h2 (e | ⟨c, hc, e⟩)
    · exact row_ne hr hjr h1 e
    · exact (h.irow t ht i x hx c hc).ne hr h2 e
  have hVo : ∀ c a q, ¬ (a = t ∧ q = dn t + i) → (setY Y t (dn t + i) Vn).V c a q = Y.V c a q := fun c a q e => if_neg e
  have hVs : ∀ c, (setY Y t (dn t + i) Vn).V c t (dn t + i) = Vn c := fun c => if_pos ⟨rfl, rfl⟩
  refine ⟨⟨?_, ?_, fun a ha => ?_, fun a ha q y hy => ?_, fun a ha q y hy c hc => ?_, ?_⟩, ⟨hs.sl, fun a k a' k' h1 h2 e => ?_, fun c a k c' a' k' b hc hc' h1 h2 e1 e2 => ?_⟩, fun b hb => ?_⟩
  · exact hf.row h.wrow (hX _ 71 _ _ h.wrow (by decide) (by decide))
  · exact hf.row h.rrow (hX _ 81 _ _ h.rrow (by decide) (by decide))
  · rw [setR_len]
    refine (h.srow a ha).of_block (fun b hb => ?_)
    have hlt := ((h.srow a ha).lt b hb).2
    refine hf.block b hlt (fun hc => ?_)
    rcases h.srow a ha with ⟨g, _⟩ | ⟨g, off, cap, sz, f, hv, _, hr, _⟩
    · rw [g] at hb; cases hb
    · rw [hv] at hb; cases hb
      exact hX _ 78 _ _ hr (by decide) (by decide) hc
  · rcases setR_get hx hy with ⟨rfl, rfl, rfl⟩ | ⟨hne, hy'⟩
    · have e : (fun c => (setY Y a (dn a + q) Vn).V c a (dn a + q)) = Vn := funext hVs
      rw [e]
      exact hrow
    · have hne' : ¬ (a = t ∧ dn a + q = dn t + i) := by
        rintro ⟨rfl, e⟩
        rcases hne with g | g
        · exact g rfl
        · exact g (by omega)
      have e : (fun c => (setY Y t (dn t + i) Vn).V c a (dn a + q)) = (fun c => Y.V c a (dn a + q)) := funext (fun c => hVo c a _ hne')
      rw [e]
      have hr := h.jrow a ha q y hy'
      refine hf.row hr (fun hc => ?_)
      rcases hc with g | ⟨c, hc, g⟩
      · exact hne' (hs.jb a _ t _ (wlive_get ha hy') hl g)
      · exact (h.irow t ht i x hx c hc).ne hr (by decide) g
  · rcases setR_get hx hy with ⟨rfl, rfl, rfl⟩ | ⟨hne, hy'⟩
    · rw [hVs]
      exact hi c hc
    · have hne' : ¬ (a = t ∧ dn a + q = dn t + i) := by
        rintro ⟨rfl, e⟩
        rcases hne with g | g
        · exact g rfl
        · exact g (by omega)
      rw [hVo c a _ hne']
      have hr := h.irow a ha q y hy' c hc
      refine hr.of_block (fun b hb => hf.block b (hr.lt b hb).2 (fun hc' => ?_))
      rcases hc' with g | ⟨c', hc', g⟩
      · rw [g] at hb
        exact hr.ne hjr (by decide) hb
      · have := hs.iv c a _ c' t _ b hc hc' (wlive_get ha hy') hl hb g
        exact hne' this.2
  · refine ⟨h.lo.1, h.lo.2.1, fun a ha q hq => ?_⟩
    rw [setR_len] at hq
    exact h.lo.2.2 a ha q hq
  · exact hs.jb a k a' k' (setR_live.1 h1) (setR_live.1 h2) e
  · have l1 := setR_live.1 h1
    have l2 := setR_live.1 h2
    have old : ∀ c a k b, c < 3 → wlive n u dn a k → (Y.V c a k).ownBlock = some b → b < w.heap.size := fun c a k b hc hl hb => (h.foot_lt (.inr (.inr (.inr (.inr ⟨c, a, k, hc, hl, hb⟩))))).2
    by_cases g1 : a = t ∧ k = dn t + i
    · obtain ⟨rfl, rfl⟩ := g1
      rw [hVs] at e1
      by_cases g2 : a' = a ∧ k' = dn a + i
      · obtain ⟨rfl, rfl⟩ := g2
        rw [hVs] at e2
        exact ⟨hd c c' b hc hc' e1 e2, rfl, rfl⟩
      · rw [hVo c' a' k' g2] at e2
        rcases hn c hc b e1 with g | g
        · have := hs.iv c a _ c' a' k' b hc hc' hl l2 g e2
          exact absurd ⟨this.2.1.symm, this.2.2.symm⟩ g2
        · have := old c' a' k' b hc' l2 e2; omega
    · rw [hVo c a k g1] at e1
      by_cases g2 : a' = t ∧ k' = dn t + i
      · obtain ⟨rfl, rfl⟩ := g2
        rw [hVs] at e2
        rcases hn c' hc' b e2 with g | g
        · have := hs.iv c a k c' a' _ b hc hc' l1 hl e1 g
          exact absurd this.2 g1
        · have := old c a k b hc l1 e1; omega
      · rw [hVo c' a' k' g2] at e2
        exact hs.iv c a k c' a' k' b hc hc' l1 l2 e1 e2
  · rcases hb with g | g | g | ⟨a, k, hl', g⟩ | ⟨c, a, k, hc, hl', g⟩
    · exact .inl (.inl g)
    · exact .inl (.inr (.inl g))
    · exact .inl (.inr (.inr (.inl g)))
    · exact .inl (.inr (.inr (.inr (.inl ⟨a, k, setR_live.1 hl', g⟩))))
    · by_cases e : a = t ∧ k = dn t + i
      · obtain ⟨rfl, rfl⟩ := e
        rw [hVs] at g
        rcases hn c hc b g with g1 | g1
        · exact .inl (.inr (.inr (.inr (.inr ⟨c, a, _, hc, hl, g1⟩))))
        · exact .inr g1
      · rw [hVo c a k e] at g
        exact .inl (.inr (.inr (.inr (.inr ⟨c, a, k, hc, setR_live.1 hl', g⟩))))

/-- The watch's own numbers are written. -/
theorem WAt.setW {w : World} {B n kb : Nat} {tv pv : Value} {u : Wt} {dn : Nat → Nat} {Y : WL} (h : WAt w B n kb tv pv u dn Y) {q : Nat} {x : Int} {u' : Wt} (hr : u'.runs = u.runs) (hc : ∀ p, p < 8 → wcell kb n tv pv Y.rb u' p = if p = q then .int .i64 x else wcell kb n tv pv Y.rb u p) :
    WAt (w.setCell ⟨Y.wb, q, none⟩ (.int .i64 x)) B n kb tv pv u' dn Y := by
  have hne : ∀ b T N F, w.rowIs b T N F → T ≠ 71 → b ≠ Y.wb := fun b T N F hb hT => row_ne hb h.wrow hT
  refine ⟨(h.wrow.set q _).congr (fun p hp => (hc p hp).symm), h.rrow.setOther (by simpa using hne _ _ _ _ h.rrow (by decide)) _, fun t ht => ?_, fun t ht i y hy => ?_, fun t ht i y hy c hc => ?_, ?_⟩
  · rw [hr]
    refine (h.srow t ht).of_block (fun b hb => Deep.blk_setCell_other _ _ _ _ (fun e => ?_))
    have e' : b = Y.wb := e
    rw [e'] at hb
    exact (h.srow t ht).ne h.wrow (by decide) hb
  · rw [hr] at hy
    have hj := h.jrow t ht i y hy
    exact hj.setOther (by simpa using hne _ _ _ _ hj (by decide)) _
  · rw [hr] at hy
    refine (h.irow t ht i y hy c hc).of_block (fun b hb => Deep.blk_setCell_other _ _ _ _ (fun e => ?_))
    have e' : b = Y.wb := e
    rw [e'] at hb
    exact (h.irow t ht i y hy c hc).ne h.wrow (by decide) hb
  · rw [hr]; exact h.lo

end Go.Proofs.YtdabcflpcklfiaaGreat
