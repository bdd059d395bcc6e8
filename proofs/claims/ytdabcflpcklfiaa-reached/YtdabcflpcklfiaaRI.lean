import Derived.Test.YtdabcflpcklfiaaWe
namespace Go.Proofs.Ytdabcflpcklfiaa
open Go.RowKit

def neg7 (_ : Nat) : Value := .int .i64 (-7)

/-- The law's own record: nine fields, of which two grow here. -/
def wf9 (vs vt : Value) (F : Nat → Value) (q : Nat) : Value := if q = 6 then vs else if q = 7 then vt else F q

/-- What the law's world holds while lent tasks are looked at and turned over. -/
structure RI (B0 n m Lb Wb ba b2 ns nt : Nat) (T : TD) (S : Nat → Nat) (v vs vt : Value) (F LF : Nat → Value) (G : Nat → Nat → Value) (xs ys : List Value) (w wr : World) : Prop where
  below : Below B0 w wr
  lrow : wr.rowIs Lb 67 ((n + 1) * 4) LF
  rows : ∀ j, j < n → wr.rowIs (S j) 99 ((T.L j + 1) * 2) (G j)
  own : wr.ownsRow ba 65 1 v n (allOf T S n)
  wrow : wr.rowIs Wb 31 9 (wf9 vs vt F)
  sown : wr.ownsRow b2 65 1 vs (ns + m) (xs ++ allOf T S m)
  town : wr.ownsRow b2 22 1 vt nt ys
  b2le : b2 ≤ wr.heap.size
  frame : ∀ g, g < b2 → g ≠ Lb → g ≠ Wb → (∀ j, j < n → g ≠ S j) → wr.heap[g]? = w.heap[g]?

/-- What stands through the call. -/
structure RetFix (B0 n Lb Wb b2 ns nt : Nat) (T : TD) (S : Nat → Nat) (v : Value) : Prop where
  hn : (ns + n) * 24 ≤ 140737488355328
  ht : (nt + 1) * 24 ≤ 140737488355328
  hn8 : n * 48 ≤ 140737488351232
  hL : ∀ i, i < n → T.L i * 16 ≤ 140737488351232
  lb : B0 ≤ Lb
  wb : B0 ≤ Wb
  sb : ∀ j, j < n → B0 ≤ S j
  sord : ∀ i j, i < j → j < n → S i < S j
  vb : ∀ g, v.ownBlock = some g → g < b2
  bb : B0 ≤ b2

theorem rows_ne {w : World} {a b s t m n : Nat} {f g : Nat → Value} (h : w.rowIs a s m f) (k : w.rowIs b t n g) (hne : s ≠ t) : a ≠ b := by
  rintro rfl
  obtain ⟨c, hc, _⟩ := h
  obtain ⟨d, hd, _⟩ := k
  rw [hc] at hd
  simp at hd
  exact hne hd.2

theorem own_setOther {w : World} {base e size : Nat} {v : Value} {n : Nat} {xs : List Value} {b t m i : Nat} {f : Nat → Value} (h : w.ownsRow base e size v n xs) (hr : w.rowIs b t m f) (hne : t ≠ e) (u : Value) : (w.setCell ⟨b, i, none⟩ u).ownsRow base e size v n xs := by
  have hb := own_type h hr hne
  refine h.kept (row := some b) ⟨rfl, rfl, rfl, by rw [Deep.nblk_setCell]; exact Nat.le_refl _, fun k _ hk => Deep.blk_setCell_other _ _ _ _ (fun e => hk (by rw [e]))⟩ ?_
  exact .inr (fun e => hb e.symm)

variable {B0 n m Lb Wb ba b2 ns nt : Nat} {T : TD} {S : Nat → Nat} {v vs vt : Value} {F LF : Nat → Value} {G : Nat → Nat → Value} {xs ys : List Value} {w wr : World}

theorem RI.alloc (h : RI B0 n m Lb Wb ba b2 ns nt T S v vs vt F LF G xs ys w wr) (hB : B0 ≤ wr.heap.size) (o : Obj) : RI B0 n m Lb Wb ba b2 ns nt T S v vs vt F LF G xs ys w (wr.alloc o) :=
  ⟨h.below.alloc hB o, h.lrow.alloc o, fun j hj => (h.rows j hj).alloc o, h.own.alloc o, h.wrow.alloc o, h.sown.alloc o, h.town.alloc o, by have := h.b2le; simp; omega, fun g h1 h2 h3 h4 => (Below.heap_alloc _ _ _ (Nat.lt_of_lt_of_le h1 h.b2le)).trans (h.frame g h1 h2 h3 h4)⟩

theorem RI.drewN (h : RI B0 n m Lb Wb ba b2 ns nt T S v vs vt F LF G xs ys w wr) (k : Nat) : RI B0 n m Lb Wb ba b2 ns nt T S v vs vt F LF G xs ys w (wr.drewN k) :=
  ⟨below_drewN h.below k, h.lrow, h.rows, h.own, h.wrow, h.sown, h.town, h.b2le, h.frame⟩

theorem RI.congr {LF' : Nat → Value} {G' : Nat → Nat → Value} (h : RI B0 n m Lb Wb ba b2 ns nt T S v vs vt F LF G xs ys w wr) (hl : ∀ q, q < (n + 1) * 4 → LF q = LF' q) (hg : ∀ j, j < n → ∀ q, q < (T.L j + 1) * 2 → G j q = G' j q) :
    RI B0 n m Lb Wb ba b2 ns nt T S v vs vt F LF' G' xs ys w wr :=
  ⟨h.below, h.lrow.congr hl, fun j hj => (h.rows j hj).congr (hg j hj), h.own, h.wrow, h.sown, h.town, h.b2le, h.frame⟩

/-- A store into one of the lent programs. -/
theorem RI.setS (hf : RetFix B0 n Lb Wb b2 ns nt T S v) (h : RI B0 n m Lb Wb ba b2 ns nt T S v vs vt F LF G xs ys w wr) {k : Nat} (hk : k < n) (q : Nat) (u : Value) :
    RI B0 n m Lb Wb ba b2 ns nt T S v vs vt F LF (fun j p => if j = k then (if p = q then u else G k p) else G j p) xs ys w (wr.setCell ⟨S k, q, none⟩ u) := by
  have hr := h.rows k hk
  refine ⟨h.below.setCell (hf.sb k hk) _, h.lrow.setOther (rows_ne h.lrow hr (by decide)) _, fun j hj => ?_, own_setOther h.own hr (by decide) _, h.wrow.setOther (rows_ne h.wrow hr (by decide)) _,
    own_setOther h.sown hr (by decide) _, own_setOther h.town hr (by decide) _, by rw [Deep.nblk_setCell]; exact h.b2le, fun g h1 h2 h3 h4 => (Deep.blk_setCell_other _ _ _ _ (by exact h4 k hk)).trans (h.frame g h1 h2 h3 h4)⟩
  by_cases e : j = k
  · subst e
    simp only [if_true]
    exact hr.set q u
  · simp only [e, if_false]
    refine (h.rows j hj).setOther ?_ _
    show S j ≠ S k
    rcases Nat.lt_or_gt_of_ne e with g | g
    · have := hf.sord j k g hk; omega
    · have := hf.sord k j g hj; omega

/-- A store into the lent tasks. -/
theorem RI.setL (hf : RetFix B0 n Lb Wb b2 ns nt T S v) (h : RI B0 n m Lb Wb ba b2 ns nt T S v vs vt F LF G xs ys w wr) (q : Nat) (u : Value) :
    RI B0 n m Lb Wb ba b2 ns nt T S v vs vt F (fun p => if p = q then u else LF p) G xs ys w (wr.setCell ⟨Lb, q, none⟩ u) := by
  have hr := h.lrow
  exact ⟨h.below.setCell hf.lb _, hr.set q u, fun j hj => (h.rows j hj).setOther (rows_ne (h.rows j hj) hr (by decide)) _, own_setOther h.own hr (by decide) _, h.wrow.setOther (rows_ne h.wrow hr (by decide)) _,
    own_setOther h.sown hr (by decide) _, own_setOther h.town hr (by decide) _, by rw [Deep.nblk_setCell]; exact h.b2le, fun g h1 h2 h3 h4 => (Deep.blk_setCell_other _ _ _ _ (by exact h2)).trans (h.frame g h1 h2 h3 h4)⟩

theorem RI.wrowS (h : RI B0 n m Lb Wb ba b2 ns nt T S v vs vt F LF G xs ys w wr) {w5 : World} (hg5 : wr.grownBy w5 vs.ownBlock) : w5.rowIs Wb 31 9 (wf9 vs vt F) :=
  h.wrow.of_block (hg5.block _ h.wrow.lt (own_type h.sown h.wrow (by decide)))

theorem RI.wrowT (h : RI B0 n m Lb Wb ba b2 ns nt T S v vs vt F LF G xs ys w wr) {w5 : World} (hg5 : wr.grownBy w5 vt.ownBlock) : w5.rowIs Wb 31 9 (wf9 vs vt F) :=
  h.wrow.of_block (hg5.block _ h.wrow.lt (own_type h.town h.wrow (by decide)))

theorem own_slice {w : World} {base e size : Nat} {v : Value} {n : Nat} {xs : List Value} (h : w.ownsRow base e size v (n + 1) xs) : ∃ g cap, v = .slice (some ⟨g, 0, none⟩) (n + 1) cap := by
  rcases h.2 with ⟨_, h0⟩ | ⟨g, cap, _, hv, _⟩
  · omega
  · exact ⟨g, cap, hv⟩

/-- The tasks field grows by one. -/
theorem RI.pushT (hf : RetFix B0 n Lb Wb b2 ns nt T S v) (h : RI B0 n m Lb Wb ba b2 ns nt T S v vs vt F LF G xs ys w wr) {w5 : World} {v5 u : Value} (hown5 : w5.ownsRow b2 22 1 v5 (nt + 1) (ys ++ [u]))
    (hg5 : wr.grownBy w5 vt.ownBlock) : RI B0 n m Lb Wb ba b2 ns (nt + 1) T S v vs v5 F LF G xs (ys ++ [u]) w (w5.setCell ⟨Wb, 7, none⟩ v5) := by
  have hb2 := h.b2le
  have hbw : B0 ≤ wr.heap.size := Nat.le_trans hf.bb hb2
  have hw5 := h.wrowT hg5
  have hl5 := h.lrow.of_block (hg5.block _ h.lrow.lt (own_type h.town h.lrow (by decide)))
  have hr5 : ∀ j, j < n → w5.rowIs (S j) 99 ((T.L j + 1) * 2) (G j) := fun j hj => (h.rows j hj).of_block (hg5.block _ (h.rows j hj).lt (own_type h.town (h.rows j hj) (by decide)))
  have ne45 : ∀ {x : Value} {c : Nat} {l : List Value} {bs : Nat}, wr.ownsRow bs 65 1 x c l → x.ownBlock = none ∨ x.ownBlock ≠ vt.ownBlock := by
    intro x c l bs hx
    rcases hx.2 with ⟨rfl, _⟩ | ⟨g, cap, cur, rfl, _, hg, _, _, hcs, _⟩
    · exact .inl rfl
    · refine .inr ?_
      have : wr.rowIs g 65 (cap * 1) (fun q => cur[q]!) := ⟨cur, hg, hcs, fun i hi => by rw [← hcs] at hi; simp [hi]⟩
      exact own_type h.town this (by decide)
  have ho5 := h.own.kept hg5 (ne45 h.own)
  have hs5 := h.sown.kept hg5 (ne45 h.sown)
  have hbel5 : Below B0 w w5 := h.below.grown hg5 hbw (fun q hq => by have h1 := (h.town.lt q hq).1; have h2 := hf.bb; omega)
  refine ⟨hbel5.setCell hf.wb _, hl5.setOther (rows_ne hl5 hw5 (by decide)) _, fun j hj => (hr5 j hj).setOther (rows_ne (hr5 j hj) hw5 (by decide)) _, own_setOther ho5 hw5 (by decide) _, ?_, own_setOther hs5 hw5 (by decide) _, own_setOther hown5 hw5 (by decide) _,
    by rw [Deep.nblk_setCell]; exact Nat.le_trans hb2 hg5.size, fun g h1 h2 h3 h4 => (Deep.blk_setCell_other _ _ _ _ (by exact h3)).trans ((hg5.block g (Nat.lt_of_lt_of_le h1 hb2) (fun e => by have := (h.town.lt g e.symm).1; omega)).trans (h.frame g h1 h2 h3 h4))⟩
  refine (hw5.set 7 v5).congr (fun q _ => ?_)
  unfold wf9
  by_cases e : q = 7
  · simp [e]
  · simp [e]

/-- The steps field grows by one. -/
theorem RI.pushS (hf : RetFix B0 n Lb Wb b2 ns nt T S v) (h : RI B0 n m Lb Wb ba b2 ns nt T S v vs vt F LF G xs ys w wr) {w5 : World} {v5 : Value} (hown5 : w5.ownsRow b2 65 1 v5 (ns + m + 1) (xs ++ (allOf T S m ++ [Value.slice (some ⟨S m, 0, none⟩) (T.L m + 1) (T.L m + 1)])))
    (hg5 : wr.grownBy w5 vs.ownBlock) : RI B0 n (m + 1) Lb Wb ba b2 ns nt T S v v5 vt F LF G xs ys w (w5.setCell ⟨Wb, 6, none⟩ v5) := by
  have hb2 := h.b2le
  have hbw : B0 ≤ wr.heap.size := Nat.le_trans hf.bb hb2
  have hw5 := h.wrow.of_block (hg5.block _ h.wrow.lt (own_type h.sown h.wrow (by decide)))
  have hl5 := h.lrow.of_block (hg5.block _ h.lrow.lt (own_type h.sown h.lrow (by decide)))
  have hr5 : ∀ j, j < n → w5.rowIs (S j) 99 ((T.L j + 1) * 2) (G j) := fun j hj => (h.rows j hj).of_block (hg5.block _ (h.rows j hj).lt (own_type h.sown (h.rows j hj) (by decide)))
  have hvne : v.ownBlock = none ∨ v.ownBlock ≠ vs.ownBlock := by
    cases hv : v.ownBlock with
    | none => exact .inl rfl
    | some g =>
      refine .inr (fun e => ?_)
      have h1 := hf.vb g hv
      have h2 := (h.sown.lt g e.symm).1
      omega
  have ho5 := h.own.kept hg5 hvne
  have htne : vt.ownBlock = none ∨ vt.ownBlock ≠ vs.ownBlock := by
    rcases h.town.2 with ⟨rfl, _⟩ | ⟨g, cap, cur, rfl, _, hg, _, _, hcs, _⟩
    · exact .inl rfl
    · refine .inr ?_
      have : wr.rowIs g 22 (cap * 1) (fun q => cur[q]!) := ⟨cur, hg, hcs, fun i hi => by rw [← hcs] at hi; simp [hi]⟩
      exact own_type h.sown this (by decide)
  have ht5 := h.town.kept hg5 htne
  have hbel5 : Below B0 w w5 := h.below.grown hg5 hbw (fun q hq => by have h1 := (h.sown.lt q hq).1; have h2 := hf.bb; omega)
  refine ⟨hbel5.setCell hf.wb _, hl5.setOther (rows_ne hl5 hw5 (by decide)) _, fun j hj => (hr5 j hj).setOther (rows_ne (hr5 j hj) hw5 (by decide)) _, own_setOther ho5 hw5 (by decide) _, ?_, ?_, own_setOther ht5 hw5 (by decide) _,
    by rw [Deep.nblk_setCell]; exact Nat.le_trans hb2 hg5.size, fun g h1 h2 h3 h4 => (Deep.blk_setCell_other _ _ _ _ (by exact h3)).trans ((hg5.block g (Nat.lt_of_lt_of_le h1 hb2) (fun e => by have := (h.sown.lt g e.symm).1; omega)).trans (h.frame g h1 h2 h3 h4))⟩
  · refine (hw5.set 6 v5).congr (fun q _ => ?_)
    unfold wf9
    by_cases e : q = 6
    · simp [e]
    · simp [e]
  · have := own_setOther (i := 6) hown5 hw5 (by decide) v5
    have e : allOf T S m ++ [Value.slice (some ⟨S m, 0, none⟩) (T.L m + 1) (T.L m + 1)] = allOf T S (m + 1) := by
      unfold allOf
      rw [List.range_succ, List.map_append]
      rfl
    rw [e] at this
    exact this

end Go.Proofs.Ytdabcflpcklfiaa
