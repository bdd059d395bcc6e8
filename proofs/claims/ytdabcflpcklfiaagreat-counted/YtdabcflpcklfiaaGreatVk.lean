import Derived.Test.YtdabcflpcklfiaaGreatVj
/- The law's run takes its locks. -/
namespace Go.Proofs.YtdabcflpcklfiaaGreat
open Go.RowKit Cad

/-- From one state of the law's watch in memory to another. -/
structure WMove (B n kb : Nat) (tv pv : Value) (u u' : Wt) (dn dn' : Nat → Nat) (Y Y' : WL) (w w' : World) : Prop where
  at' : WAt w' B n kb tv pv u' dn' Y'
  sep : WSep n u' dn' Y'
  fr : Fr (footW n u dn Y) w w'
  ft : ∀ b, footW n u' dn' Y' b → footW n u dn Y b ∨ w.heap.size ≤ b
  wb : Y'.wb = Y.wb

theorem WMove.refl {B n kb : Nat} {tv pv : Value} {u : Wt} {dn : Nat → Nat} {Y : WL} {w w' : World} (h : WAt w B n kb tv pv u dn Y) (hs : WSep n u dn Y) (hb : Below w.heap.size w w') : WMove B n kb tv pv u u dn dn Y Y w w' :=
  ⟨h.below hb, hs, Fr.of_below _ hb, fun _ g => .inl g, rfl⟩

theorem WMove.trans {B n kb : Nat} {tv pv : Value} {u u1 u2 : Wt} {dn dn1 dn2 : Nat → Nat} {Y Y1 Y2 : WL} {w w1 w2 : World} (h : WMove B n kb tv pv u u1 dn dn1 Y Y1 w w1) (k : WMove B n kb tv pv u1 u2 dn1 dn2 Y1 Y2 w1 w2) : WMove B n kb tv pv u u2 dn dn2 Y Y2 w w2 :=
  ⟨k.at', k.sep, h.fr.trans k.fr (fun b hb => h.ft b hb), fun b hb => by
    rcases k.ft b hb with g | g
    · exact h.ft b g
    · exact .inr (Nat.le_trans h.fr.size g), k.wb.trans h.wb⟩

theorem WMove.below {B n kb : Nat} {tv pv : Value} {u u' : Wt} {dn dn' : Nat → Nat} {Y Y' : WL} {w w' w'' : World} (h : WMove B n kb tv pv u u' dn dn' Y Y' w w') (hb : Below w'.heap.size w' w'') : WMove B n kb tv pv u u' dn dn' Y Y' w w'' := h.trans (.refl h.at' h.sep hb)

/-- The kernel stands beside it. -/
theorem KSt.wmove {B n kb : Nat} {tv pv : Value} {u u' : Wt} {dn dn' : Nat → Nat} {Y Y' : WL} {w w' : World} {S : Sy} {m : Mc} (h : KSt (fun q => q < B ∨ footW n u dn Y q) w kb S m) (hm : WMove B n kb tv pv u u' dn dn' Y Y' w w') (_hB : B ≤ w.heap.size) : KSt (fun q => q < B ∨ footW n u' dn' Y' q) w' kb S m := by
  obtain ⟨Z, hk, ho⟩ := h
  refine ⟨Z, hk.same (fun b hf => hm.fr.block b (hk.foot_lt hf) (fun g => ho b hf (.inr g))), fun q hq g => ?_⟩
  rcases g with g | g
  · exact ho q hq (.inl g)
  · rcases hm.ft q g with g1 | g1
    · exact ho q hq (.inr g1)
    · have := hk.foot_lt hq; omega

/-- append, of one element, in a region that draws. -/
theorem step_append_sl {ops : Array Oper} {o : Oper} {a : Act} {w : World} {K : Act → World → Prop} {Q : Exit → Act → World → Prop} {E : Prop}
    (hg : o.guard = none) (s x : Operand) (t : TypeId) (hop : o.op = Op.call { callee := Callee.builtin Builtin.append, args := #[s, x], argTypes := #[t, t] })
    (e : TypeId) (i : TypeInfo) (z : Value) (ht : Tryz.prog.underlying t = some (.slice e)) (hi : Tryz.prog.info? e = some i) (hz : i.zero = some z) (hsz : i.size = 1) (hby : i.bytes = 8) (hzs : z.cells.size = 1)
    (B : Nat) (v : Value) (l : List Value) (hs : a.eval s = v) (hown : SL e w B v l) (hl : l.length ≤ 1000) (hB : B ≤ w.heap.size)
    (ad : Addr) (c : Nat) (p : Value) (hx : a.eval x = .slice (some ad) 1 c) (hp : w.cell? ad = some p) (h1 : p.oneCell' = true)
    (h : ∀ v' w', SL e w' B v' (l ++ [p]) → Fr (fun q => v.ownBlock = some q) w w' → (∀ b, v'.ownBlock = some b → v.ownBlock = some b ∨ w.heap.size ≤ b) → K (a.put o.dst v') w') :
    if Region.wanted o (yielded ops a.tmps) = true then Oper.wp Tryz.prog o a w K Q else E := by
  have hw : Region.wanted o (yielded ops a.tmps) = true := by simp [Region.wanted, hg]
  rw [if_pos hw]
  obtain ⟨v', w', hr, h2, h3, h4⟩ := run_append_sl (ty := o.type) ht hi hz hsz hby hzs hown hl hB (c := c) hp h1
  unfold Oper.wp execOp
  simp only [hop, resolve, invoke, builtin, Sem.run_bind, Sem.run_pure, Result.andThen_ok, List.map_toArray, List.map_cons, List.map_nil, hs, hx, hr]
  exact h v' w' h2 h3 h4

theorem wpList_append_sl {w : World} {ops : Array Oper} {rest : List Oper} {o : Oper} {a : Act} {Q : Exit → Act → World → Prop}
    (hg : o.guard = none) (s x : Operand) (t : TypeId) (hop : o.op = Op.call { callee := Callee.builtin Builtin.append, args := #[s, x], argTypes := #[t, t] })
    (e : TypeId) (i : TypeInfo) (z : Value) (ht : Tryz.prog.underlying t = some (.slice e)) (hi : Tryz.prog.info? e = some i) (hz : i.zero = some z) (hsz : i.size = 1) (hby : i.bytes = 8) (hzs : z.cells.size = 1)
    (B : Nat) (v : Value) (l : List Value) (hs : a.eval s = v) (hown : SL e w B v l) (hl : l.length ≤ 1000) (hB : B ≤ w.heap.size)
    (ad : Addr) (c : Nat) (p : Value) (hx : a.eval x = .slice (some ad) 1 c) (hp : w.cell? ad = some p) (h1 : p.oneCell' = true)
    (h : ∀ v' w', SL e w' B v' (l ++ [p]) → Fr (fun q => v.ownBlock = some q) w w' → (∀ b, v'.ownBlock = some b → v.ownBlock = some b ∨ w.heap.size ≤ b) → wpList Tryz.prog ops Q rest (a.put o.dst v') w') :
    wpList Tryz.prog ops Q (o :: rest) a w := by
  refine wpList_plain hg fun K hK => ?_
  obtain ⟨v', w', hr, h2, h3, h4⟩ := run_append_sl (ty := o.type) ht hi hz hsz hby hzs hown hl hB (c := c) hp h1
  unfold Oper.wp
  simp [execOp, hop, resolve, invoke, builtin, hs, hx, hr, Result.andThen]
  exact hK _ _ (h v' w' h2 h3 h4)

/-- A run when it has taken d locks. -/
def takes (S : Sy) (t : Nat) (now : Int) (x : Wr) (d : Nat) : Wr := { x with step := x.step + d, held := x.held ++ locksF (S.N t) x.step d, since := x.since ++ List.replicate d now }

def stepOf (jb : Nat) (wr : World) : Nat := match wr.cell? ⟨jb, 3, none⟩ with
  | some (.int _ k) => k.toNat
  | _ => 0

theorem takes_zero (S : Sy) (t : Nat) (now : Int) (x : Wr) : takes S t now x 0 = x := by
  unfold takes
  simp [locksF]

theorem takes_all (S : Sy) (t : Nat) (now : Int) (x : Wr) (h : x.step ≤ skip (S.K t) 2 (S.L t) x.step) : takes S t now x (skip (S.K t) 2 (S.L t) x.step - x.step) = goesW S t now x := by
  unfold takes goesW
  rw [show x.step + (skip (S.K t) 2 (S.L t) x.step - x.step) = skip (S.K t) 2 (S.L t) x.step from by omega]

theorem takes_len (S : Sy) (t : Nat) (now : Int) (x : Wr) (d : Nat) : (takes S t now x d).held.length = x.held.length + d := by
  show (x.held ++ locksF (S.N t) x.step d).length = _
  rw [List.length_append, locksF_len]

theorem setR_self {u : Wt} {t : Nat} {x : Wr} {l : List Wr} (h : u.runs t = x :: l) : setR u t 0 x = u := by
  unfold setR
  have : upd u.runs t ((u.runs t).set 0 x) = u.runs := by
    funext a
    unfold upd
    split
    · rename_i e; rw [e, h]; rfl
    · rfl
  rw [this]

theorem setR_head {u : Wt} {t : Nat} {x y : Wr} {l : List Wr} (h : u.runs t = x :: l) : (setR u t 0 y).runs t = y :: l := by
  show upd u.runs t ((u.runs t).set 0 y) t = _
  rw [upd_same, h]
  rfl

theorem setR_other {u : Wt} {t a i : Nat} {y : Wr} (h : a ≠ t) : (setR u t i y).runs a = u.runs a := upd_other _ _ h

theorem setR_twice (u : Wt) (t i : Nat) (x y : Wr) : setR (setR u t i x) t i y = setR u t i y := by
  unfold setR
  simp only [upd_same, List.set_set]
  congr 1
  funext a
  unfold upd
  split <;> rfl

theorem mem_setR {u : Wt} {t : Nat} {x x' : Wr} {l : List Wr} (h : u.runs t = x :: l) {a : Nat} {y : Wr} (hy : y ∈ (setR u t 0 x').runs a) : (a = t ∧ (y = x' ∨ y ∈ l)) ∨ (a ≠ t ∧ y ∈ u.runs a) := by
  by_cases e : a = t
  · subst e
    rw [setR_head h] at hy
    exact .inl ⟨rfl, List.mem_cons.1 hy⟩
  · rw [setR_other e] at hy
    exact .inr ⟨e, hy⟩

theorem ints_snoc (l : List Int) (x : Int) : ints l ++ [.int .i64 x] = ints (l ++ [x]) := by simp [ints]

theorem set_ne {w : World} {a b : Addr} {v x : Value} (h : a ≠ b) (hc : w.cell? a = some x) : (w.setCell b v).cell? a = some x := by rw [World.cell?_setCell_other (h := h.symm)]; exact hc

theorem fr_da (X : Nat → Prop) (w : World) (o : Obj) : Fr X w (w.drew.alloc o) := (Fr.refl X w).drew.alloc o

theorem bel_da (w : World) (o : Obj) : Below w.heap.size w (w.drew.alloc o) := (fr_da (fun _ => False) w o).below (Nat.le_refl _) (fun _ h => h.elim)

theorem cell_da (w : World) (x : Value) (t : Nat) : (w.drew.alloc (.cells #[x] t)).cell? ⟨w.heap.size, 0, none⟩ = some x := World.cell?_alloc_at (w := w.drew) #[x] t w.heap.size 0 rfl

theorem SL.da {e : Nat} {w : World} {B : Nat} {v : Value} {l : List Value} (h : SL e w B v l) (o : Obj) : SL e (w.drew.alloc o) B v l := h.of_block (fun b hb => (bel_da w o).block b (h.lt b hb).2)

/-- The row of a run, behind an append to one of its lists. -/
theorem row_app {w w6 : World} {B jb : Nat} {F : Nat → Value} {v : Value} {l : List Value} {o : Obj} (hj : w.rowIs jb 80 8 F) (hv : SL 3 w B v l) (hf : Fr (fun q => v.ownBlock = some q) (w.drew.alloc o) w6) : w6.rowIs jb 80 8 F :=
  hf.row (hj.of_block ((bel_da w o).block jb hj.lt)) (hv.ne hj (by decide))

/-- Any other block, behind an append to a list of a run. -/
theorem cell_app {w w6 : World} {B b i t k : Nat} {F : Nat → Value} {v : Value} {l : List Value} {o : Obj} (hb : w.rowIs b t k F) (ht : t ≠ 3) (hv : SL 3 w B v l) (hf : Fr (fun q => v.ownBlock = some q) (w.drew.alloc o) w6) : w6.cell? ⟨b, i, none⟩ = w.cell? ⟨b, i, none⟩ :=
  (hf.cell (Nat.lt_of_lt_of_le hb.lt (bel_da w o).size) (hv.ne hb ht)).trans ((bel_da w o).cell (p := ⟨b, i, none⟩) hb.lt)

theorem cell_app_lo {w w6 : World} {B b i : Nat} {v : Value} {l : List Value} {o : Obj} (hb : b < w.heap.size) (hlo : b < B) (hv : SL 3 w B v l) (hf : Fr (fun q => v.ownBlock = some q) (w.drew.alloc o) w6) : w6.cell? ⟨b, i, none⟩ = w.cell? ⟨b, i, none⟩ :=
  (hf.cell (Nat.lt_of_lt_of_le hb (bel_da w o).size) (fun e => by have := (hv.lt b e).1; omega)).trans ((bel_da w o).cell (p := ⟨b, i, none⟩) hb)

theorem sl_app_other {w5 w6 : World} {B jb : Nat} {v1 v2 v6 : Value} {l2 : List Value} {F : Nat → Value} {o6 : Obj} (i2 : SL 3 w5 B v2 l2) (hj : w5.rowIs jb 80 8 F) (hf6 : Fr (fun q => v1.ownBlock = some q) (w5.drew.alloc o6) w6) (hd : ∀ b, v1.ownBlock = some b → v2.ownBlock ≠ some b) : SL 3 (w6.setCell ⟨jb, 4, none⟩ v6) B v2 l2 := i2.of_block (fun b hb => by
  have hlt := (i2.lt b hb).2
  have s5 := (bel_da w5 o6).size
  rw [Deep.blk_setCell_other _ _ _ _ (fun e => i2.ne hj (by decide) (by rw [← (show b = jb from e)]; exact hb))]
  rw [hf6.block b (by omega) (fun e => hd b e hb)]
  exact (bel_da w5 o6).block b hlt)

/-- A run has taken one lock. -/
theorem WAt.takeOne {w5 w6 w7 : World} {B n kb : Nat} {tv pv : Value} {u : Wt} {dn : Nat → Nat} {Y : WL} (h : WAt w5 B n kb tv pv u dn Y) (hs : WSep n u dn Y) {t i : Nat} {x : Wr} (ht : t < n) (hx : (u.runs t)[i]? = some x) {r now : Int} {v6 v7 : Value} {o6 o7 : Obj}
    (hs6 : SL 3 w6 B v6 (ints x.held ++ [.int .i64 r])) (hf6 : Fr (fun q => (Y.V 1 t (dn t + i)).ownBlock = some q) (w5.drew.alloc o6) w6) (hn6 : ∀ b, v6.ownBlock = some b → (Y.V 1 t (dn t + i)).ownBlock = some b ∨ (w5.drew.alloc o6).heap.size ≤ b)
    (hs7 : SL 3 w7 B v7 (ints x.since ++ [.int .i64 now])) (hf7 : Fr (fun q => (Y.V 2 t (dn t + i)).ownBlock = some q) ((w6.setCell ⟨Y.jb t (dn t + i), 4, none⟩ v6).drew.alloc o7) w7) (hn7 : ∀ b, v7.ownBlock = some b → (Y.V 2 t (dn t + i)).ownBlock = some b ∨ ((w6.setCell ⟨Y.jb t (dn t + i), 4, none⟩ v6).drew.alloc o7).heap.size ≤ b) :
    WMove B n kb tv pv u (setR u t i { x with step := x.step + 1, held := x.held ++ [r], since := x.since ++ [now] }) dn dn Y (setY Y t (dn t + i) (fun c => if c = 0 then Y.V 0 t (dn t + i) else if c = 1 then v6 else v7)) w5 ((w7.setCell ⟨Y.jb t (dn t + i), 5, none⟩ v7).setCell ⟨Y.jb t (dn t + i), 3, none⟩ (.int .i64 ((x.step + 1 : Nat) : Int))) := by
  have hj := h.jrow t ht i x hx
  have hl := wlive_get (n := n) (dn := dn) ht hx
  have i0 := h.irow t ht i x hx 0 (by omega)
  have i1 := h.irow t ht i x hx 1 (by omega)
  have i2 := h.irow t ht i x hx 2 (by omega)
  have hj6 := row_app hj i1 hf6
  have hj6' := hj6.set 4 v6
  have hd02 : ∀ b, (Y.V 0 t (dn t + i)).ownBlock = some b → (Y.V 1 t (dn t + i)).ownBlock ≠ some b ∧ (Y.V 2 t (dn t + i)).ownBlock ≠ some b := fun b hb => ⟨fun e => absurd (hs.iv 0 t _ 1 t _ b (by omega) (by omega) hl hl hb e).1 (by decide), fun e => absurd (hs.iv 0 t _ 2 t _ b (by omega) (by omega) hl hl hb e).1 (by decide)⟩
  have hd12 : ∀ b, (Y.V 1 t (dn t + i)).ownBlock = some b → (Y.V 2 t (dn t + i)).ownBlock ≠ some b := fun b hb e => absurd (hs.iv 1 t _ 2 t _ b (by omega) (by omega) hl hl hb e).1 (by decide)
  -- what stands where
  have s56 : (w5.drew.alloc o6).heap.size ≤ w6.heap.size := hf6.size
  have s5 := (bel_da w5 o6).size
  have i2' : SL 3 (w6.setCell ⟨Y.jb t (dn t + i), 4, none⟩ v6) B (Y.V 2 t (dn t + i)) (ints x.since) := i2.of_block (fun b hb => by
    have hlt := (i2.lt b hb).2
    rw [Deep.blk_setCell_other _ _ _ _ (fun e => i2.ne hj (by decide) (by rw [← (show b = Y.jb t (dn t + i) from e)]; exact hb))]
    rw [hf6.block b (by omega) (fun e => hd12 b e hb)]
    exact (bel_da w5 o6).block b hlt)
  have hj7 := row_app hj6' i2' hf7
  have hs6' : SL 3 (w6.setCell ⟨Y.jb t (dn t + i), 4, none⟩ v6) B v6 (ints x.held ++ [.int .i64 r]) := hs6.of_block (fun b hb => Deep.blk_setCell_other _ _ _ _ (fun e => hs6.ne hj6 (by decide) (by rw [← (show b = Y.jb t (dn t + i) from e)]; exact hb)))
  have s6 : (w6.setCell ⟨Y.jb t (dn t + i), 4, none⟩ v6).heap.size = w6.heap.size := by simp
  have n62 : ∀ b, v6.ownBlock = some b → (Y.V 2 t (dn t + i)).ownBlock ≠ some b := fun b hb e => by
    rcases hn6 b hb with g | g
    · exact hd12 b g e
    · have := (i2.lt b e).2; omega
  have hs67 : SL 3 w7 B v6 (ints x.held ++ [.int .i64 r]) := hs6'.of_block (fun b hb => by
    have hlt := (hs6'.lt b hb).2
    rw [hf7.block b (Nat.lt_of_lt_of_le hlt (bel_da _ o7).size) (n62 b hb)]
    exact (bel_da _ o7).block b hlt)
  have s7 := hf7.size
  have s67 := (bel_da (w6.setCell ⟨Y.jb t (dn t + i), 4, none⟩ v6) o7).size
  have hset : ∀ (v : Value) (l : List Value) (w' : World) (q : Nat) (y : Value) (F : Nat → Value), SL 3 w' B v l → w'.rowIs (Y.jb t (dn t + i)) 80 8 F → SL 3 (w'.setCell ⟨Y.jb t (dn t + i), q, none⟩ y) B v l := fun v l w' q y F hv hr => hv.of_block (fun b hb => Deep.blk_setCell_other _ _ _ _ (fun e => hv.ne hr (by decide) (by rw [← (show b = Y.jb t (dn t + i) from e)]; exact hb)))
  have hj8 := (hj7.set 5 v7)
  have hj9 := hj8.set 3 (.int .i64 ((x.step + 1 : Nat) : Int))
  have hfr : Fr (fun q => q = Y.jb t (dn t + i) ∨ ∃ c, c < 3 ∧ (Y.V c t (dn t + i)).ownBlock = some q) w5 ((w7.setCell ⟨Y.jb t (dn t + i), 5, none⟩ v7).setCell ⟨Y.jb t (dn t + i), 3, none⟩ (.int .i64 ((x.step + 1 : Nat) : Int))) := by
    refine Fr.setCell (Fr.setCell ?_ (.inl (.inl rfl)) _) (.inl (.inl rfl)) _
    have a1 : Fr (fun q => q = Y.jb t (dn t + i) ∨ ∃ c, c < 3 ∧ (Y.V c t (dn t + i)).ownBlock = some q) w5 (w6.setCell ⟨Y.jb t (dn t + i), 4, none⟩ v6) := ((fr_da _ w5 o6).trans hf6 (fun q hq => .inl (.inr ⟨1, by omega, hq⟩))).setCell (.inl (.inl rfl)) _
    exact ((a1.drew).alloc o7).trans hf7 (fun q hq => .inl (.inr ⟨2, by omega, hq⟩))
  have i0' : SL 3 ((w7.setCell ⟨Y.jb t (dn t + i), 5, none⟩ v7).setCell ⟨Y.jb t (dn t + i), 3, none⟩ (.int .i64 ((x.step + 1 : Nat) : Int))) B (Y.V 0 t (dn t + i)) (ints x.left) := by
    refine hset _ _ _ _ _ _ (hset _ _ _ _ _ _ ?_ hj7) hj8
    refine i0.of_block (fun b hb => ?_)
    have hlt := (i0.lt b hb).2
    rw [hf7.block b (by omega) (hd02 b hb).2, (bel_da _ o7).block b (by omega)]
    rw [Deep.blk_setCell_other _ _ _ _ (fun e => i0.ne hj (by decide) (by rw [← (show b = Y.jb t (dn t + i) from e)]; exact hb))]
    rw [hf6.block b (by omega) (hd02 b hb).1]
    exact (bel_da w5 o6).block b hlt
  have hold : ∀ c, c < 3 → ∀ b, (Y.V c t (dn t + i)).ownBlock = some b → b < w5.heap.size := fun c hc b hb => ((h.irow t ht i x hx c hc).lt b hb).2
  refine And.elim (fun h1 h23 => ?_) (h.updRun hs (x' := { x with step := x.step + 1, held := x.held ++ [r], since := x.since ++ [now] }) (Vn := fun c => if c = 0 then Y.V 0 t (dn t + i) else if c = 1 then v6 else v7) ht hx hfr (hj9.congr ?_) ?_ ?_ ?_)
  · obtain ⟨h2, h3⟩ := h23
    exact ⟨h1, h2, hfr.mono (fun q hq => by
      rcases hq with rfl | ⟨c, hc, g⟩
      · exact .inr (.inr (.inr (.inl ⟨t, _, hl, rfl⟩)))
      · exact .inr (.inr (.inr (.inr ⟨c, t, _, hc, hl, g⟩)))), h3, rfl⟩
  · intro p hp
    match p, hp with
    | 0, _ => rfl
    | 1, _ => rfl
    | 2, _ => rfl
    | 3, _ => rfl
    | 4, _ => rfl
    | 5, _ => rfl
    | 6, _ => rfl
    | 7, _ => rfl
  · intro c hc
    match c, hc with
    | 0, _ => exact i0'
    | 1, _ => exact (ints_snoc x.held r) ▸ hset _ _ _ _ _ _ (hset _ _ _ _ _ _ hs67 hj7) hj8
    | 2, _ => exact (ints_snoc x.since now) ▸ hset _ _ _ _ _ _ (hset _ _ _ _ _ _ hs7 hj7) hj8
  · intro c hc b hb
    match c, hc, hb with
    | 0, _, hb => exact .inl hb
    | 1, _, hb => rcases hn6 b hb with g | g
                  · exact .inl g
                  · exact .inr (by omega)
    | 2, _, hb => rcases hn7 b hb with g | g
                  · exact .inl g
                  · exact .inr (by omega)
  · have k01 : ∀ b, (Y.V 0 t (dn t + i)).ownBlock = some b → v6.ownBlock = some b → False := fun b e1 e2 => by
      rcases hn6 b e2 with g | g
      · exact (hd02 b e1).1 g
      · have := hold 0 (by omega) b e1; omega
    have k02 : ∀ b, (Y.V 0 t (dn t + i)).ownBlock = some b → v7.ownBlock = some b → False := fun b e1 e2 => by
      rcases hn7 b e2 with g | g
      · exact (hd02 b e1).2 g
      · have := hold 0 (by omega) b e1; omega
    have k12 : ∀ b, v6.ownBlock = some b → v7.ownBlock = some b → False := fun b e1 e2 => by
      rcases hn7 b e2 with g | g
      · exact n62 b e1 g
      · have := (hs6.lt b e1).2; omega
    intro c c' b hc hc' e1 e2
    match c, c', hc, hc', e1, e2 with
    | 0, 0, _, _, _, _ => rfl
    | 0, 1, _, _, e1, e2 => exact (k01 b e1 e2).elim
    | 0, 2, _, _, e1, e2 => exact (k02 b e1 e2).elim
    | 1, 0, _, _, e1, e2 => exact (k01 b e2 e1).elim
    | 1, 1, _, _, _, _ => rfl
    | 1, 2, _, _, e1, e2 => exact (k12 b e1 e2).elim
    | 2, 0, _, _, e1, e2 => exact (k02 b e2 e1).elim
    | 2, 1, _, _, e1, e2 => exact (k12 b e2 e1).elim
    | 2, 2, _, _, _, _ => rfl

theorem takes_succ (S : Sy) (t : Nat) (now : Int) (x : Wr) (d : Nat) : { takes S t now x d with step := x.step + d + 1, held := (takes S t now x d).held ++ [S.N t (x.step + d)], since := (takes S t now x d).since ++ [now] } = takes S t now x (d + 1) := by
  unfold takes
  simp only [locksF, List.append_assoc, List.replicate_succ', Nat.add_assoc]

set_option maxRecDepth 100000 in
set_option maxHeartbeats 2000000 in
theorem goes_any {n kb b off cap : Nat} {pv : Value} {u : Wt} {dn : Nat → Nat} {Y : WL} {T : TD} {Z : Nat → Int} {w0 w : World} (h : WAt w w0.heap.size n kb (.slice (some ⟨b, off, none⟩) n cap) pv u dn Y) (hs : WSep n u dn Y) (hG : Good T n) (hb : b < w0.heap.size) (hT : TasksAt w0 b off n T) (hbel0 : Below w0.heap.size w0 w)
    {t : Nat} {x : Wr} {l : List Wr} (ht : t < n) (hx : u.runs t = x :: l) (hl8 : ∀ t, t < n → (u.runs t).length ≤ 8) (hh : ∀ t, t < n → ∀ x ∈ u.runs t, x.held.length ≤ 16) (hsl : x.since.length = x.held.length) (hs16 : ∀ d, x.step + d ≤ skip (T.K t) 2 (T.L t) x.step → x.held.length + d ≤ 16)
    (hp1 : x.step ≤ skip (T.K t) 2 (T.L t) x.step ∧ skip (T.K t) 2 (T.L t) x.step < T.L t ∧ T.K t (skip (T.K t) 2 (T.L t) x.step) = 1 ∧ ∀ i, x.step ≤ i → i < skip (T.K t) 2 (T.L t) x.step → T.K t i = 2)
    (hfree : ∀ d, x.step + d < skip (T.K t) 2 (T.L t) x.step → T.N t (x.step + d) ∉ x.held ++ locksF (T.N t) x.step d ∧ (∀ y ∈ l, T.N t (x.step + d) ∉ y.held) ∧ ∀ a, a < n → a ≠ t → ∀ y ∈ u.runs a, T.N t (x.step + d) ∉ y.held) :
    Calls Tryz.prog 30 #[.pointer (some ⟨Y.wb, 0, none⟩), .pointer (some ⟨Y.jb t (dn t), 0, none⟩)] w fun e w' => e = .returned (.bool true) ∧ ∃ Y', Y'.jb = Y.jb ∧ WMove w0.heap.size n kb (.slice (some ⟨b, off, none⟩) n cap) pv u (setR u t 0 (goesW (sysOf T Z n) t u.now x)) dn dn Y Y' w w' := by
  obtain ⟨i0, hi0, hz0, hz1, hz2⟩ := info_parts Tryz.info3
  have hn8 := hG.eight
  have hB := hbel0.size
  obtain ⟨hl1, hl16, _, hpi⟩ := progB_inv (hG.prog t ht)
  have HA : Hid (WAt w w0.heap.size n kb (.slice (some ⟨b, off, none⟩) n cap) pv u dn Y) := h
  have HSP : Hid (WSep n u dn Y) := hs
  have HT : Hid (TasksAt w0 b off n T) := hT
  have HB0 : Hid (Below w0.heap.size w0 w) := hbel0
  have HFR : Hid (∀ d, x.step + d < skip (T.K t) 2 (T.L t) x.step → T.N t (x.step + d) ∉ x.held ++ locksF (T.N t) x.step d ∧ (∀ y ∈ l, T.N t (x.step + d) ∉ y.held) ∧ ∀ a, a < n → a ≠ t → ∀ y ∈ u.runs a, T.N t (x.step + d) ∉ y.held) := hfree
  have HXX : Hid (u.runs t = x :: l) := hx
  have HHL : Hid (∀ t, t < n → ∀ x ∈ u.runs t, x.held.length ≤ 16) := hh
  have HL8 : Hid (∀ t, t < n → (u.runs t).length ≤ 8) := hl8
  obtain ⟨q, hqe⟩ : ∃ q, q = skip (T.K t) 2 (T.L t) x.step := ⟨_, rfl⟩
  have HALL : Hid (takes (sysOf T Z n) t u.now x (q - x.step) = goesW (sysOf T Z n) t u.now x) := by
    rw [hqe]
    exact takes_all (sysOf T Z n) t u.now x hp1.1
  rw [← hqe] at hp1 hs16
  have HQ : Hid (q = skip (T.K t) 2 (T.L t) x.step) := hqe
  obtain ⟨q1, q2, q3, q4⟩ := hp1
  have HQ4 : Hid (∀ i, x.step ≤ i → i < q → T.K t i = 2) := q4
  have HS16 : Hid (∀ d, x.step + d ≤ q → x.held.length + d ≤ 16) := hs16
  have HSL : Hid (x.since.length = x.held.length) := hsl
  obtain ⟨_, w1, _, _, _⟩ := h.wc
  obtain ⟨t0, t1, t2, t3, tp⟩ := TasksAt.below hT hb hbel0 t ht
  obtain ⟨sb, so, hA, hsb, hst⟩ := tp.2 hl1
  rw [hA] at t3
  have hj := h.jrow t ht 0 x (by rw [hx]; rfl)
  simp only [Nat.add_zero] at hj
  have j0 : w.cell? ⟨Y.jb t (dn t), 0, none⟩ = some (.int .i64 t) := hj.cell (by omega)
  have hwl := h.wrow.lt
  have hjl := hj.lt
  have HPG : Hid (∀ w', Below w0.heap.size w0 w' → sb < w'.heap.size ∧ ∀ k, k < T.L t → w'.cell? ⟨sb, so + k * 2, none⟩ = some (.int .i64 (T.K t k)) ∧ w'.cell? ⟨sb, so + k * 2 + 1, none⟩ = some (.int .i64 (T.N t k))) := by
    intro w' hb'
    obtain ⟨_, _, _, _, tp'⟩ := TasksAt.below hT hb hb' t ht
    obtain ⟨sb', so', hA', hsb', hst'⟩ := tp'.2 hl1
    rw [hA] at hA'
    cases hA'
    exact ⟨hsb', hst'⟩
  have hbw : b < w.heap.size := by omega
  clear h hs hT hbel0 hfree hx hh hl8 hqe q4 hs16 hsl tp hA hst hj hpi
  go_enter Tryz.func30, Tryz.ntmps30
  go_wp2_with fail
  go_quiet (fail)
  go_wp2_with fail
  go_loopw [6] (fun _ wr => ∃ d Y', x.step + d ≤ q ∧ Y'.jb = Y.jb ∧ WMove w0.heap.size n kb (.slice (some ⟨b, off, none⟩) n cap) pv u (setR u t 0 (takes (sysOf T Z n) t u.now x d)) dn dn Y Y' w wr) (fun _ wr => T.L t - stepOf (Y.jb t (dn t)) wr)
  case atStart =>
    refine ⟨0, Y, by omega, rfl, ?_⟩
    rw [takes_zero, setR_self HXX.out]
    exact WMove.refl HA.out HSP.out (below_drewM (Below.refl _ _) _)
  case round =>
    obtain ⟨d, Y1, hd, hY1, hM⟩ := hrel
    obtain ⟨s1, hs1⟩ : ∃ s1, s1 = x.step + d := ⟨_, rfl⟩
    have HS1 : Hid (s1 = x.step + d) := hs1
    rw [← hs1] at hd
    have HM : Hid (WMove w0.heap.size n kb (.slice (some ⟨b, off, none⟩) n cap) pv u (setR u t 0 (takes (sysOf T Z n) t u.now x d)) dn dn Y Y1 w wr) := hM
    have HAr := hM.at'
    have HSr := hM.sep
    have HBr : Below w0.heap.size w0 wr := HB0.out.trans (hM.fr.below hB (fun i hi => (HA.out.foot_lt hi).1))
    have hwb := hM.wb
    have hx1 : ((setR u t 0 (takes (sysOf T Z n) t u.now x d)).runs t)[0]? = some (takes (sysOf T Z n) t u.now x d) := by rw [setR_head HXX.out]; rfl
    obtain ⟨_, _, _, _, c4, _⟩ := HAr.wc
    rw [hwb] at c4
    have hc4 : (setR u t 0 (takes (sysOf T Z n) t u.now x d)).now = u.now := rfl
    rw [hc4] at c4
    have hwl1 : Y.wb < wr.heap.size := by have := HAr.wrow.lt; rw [hwb] at this; exact this
    have hj := HAr.jrow t ht 0 _ hx1
    have hi1 := HAr.irow t ht 0 _ hx1 1 (by omega)
    have hi2 := HAr.irow t ht 0 _ hx1 2 (by omega)
    simp only [Nat.add_zero] at hj hi1 hi2
    rw [hY1] at hj
    have j3 : wr.cell? ⟨Y.jb t (dn t), 3, none⟩ = some (.int .i64 (s1 : Nat)) := by rw [hs1]; exact hj.cell (by omega)
    have j4 : wr.cell? ⟨Y.jb t (dn t), 4, none⟩ = some (Y1.V 1 t (dn t)) := hj.cell (by omega)
    have j5 : wr.cell? ⟨Y.jb t (dn t), 5, none⟩ = some (Y1.V 2 t (dn t)) := hj.cell (by omega)
    have hjl1 := hj.lt
    obtain ⟨hsb1, hst1⟩ := HPG.out wr HBr
    have hmeas : stepOf (Y.jb t (dn t)) wr = s1 := by unfold stepOf; rw [j3]; exact Int.toNat_natCast _
    have hs1x : x.step ≤ s1 := by omega
    by_cases hdq : s1 < q
    · have hk2 : T.K t s1 = 2 := HQ4.out _ (by omega) hdq
      obtain ⟨k1, k2⟩ := hst1 s1 (by omega)
      rw [hk2] at k1
      have h16 := HS16.out (d + 1) (by omega)
      have HFREE : Hid (Calls Tryz.prog 55 #[.pointer (some ⟨Y.wb, 0, none⟩), .int .i64 (T.N t s1)] wr fun e w' => e = .returned (.bool true) ∧ Below wr.heap.size wr w') := by
        unfold Hid
        rw [← hwb]
        obtain ⟨f1, f2, f3⟩ := HFR.out d (by rw [← HQ.out]; omega)
        rw [← HS1.out] at f1 f2 f3
        refine free_any HAr hn8 (fun a ha => by rw [setR_len]; have := HL8.out a ha; omega) (fun a ha y hy => ?_) _ (fun a ha y hy => ?_)
        · rcases mem_setR HXX.out hy with ⟨rfl, rfl | g⟩ | ⟨g1, g2⟩
          · rw [takes_len]; omega
          · exact HHL.out a ha y (by rw [HXX.out]; exact List.mem_cons_of_mem _ g)
          · exact HHL.out a ha y g2
        · rcases mem_setR HXX.out hy with ⟨rfl, rfl | g⟩ | ⟨g1, g2⟩
          · exact f1
          · exact f2 y g
          · exact f3 a ha g1 y g2
      clear hM hst1 hj hi1 hi2 HAr HSr HBr hx1 hk2 hs1
      go_wp2_with fail
      refine (HFREE.out).mono ?_
      rintro e w5 ⟨rfl, hb5⟩
      have HB5 : Hid (Below wr.heap.size wr w5) := hb5
      have HM5 : Hid (WMove w0.heap.size n kb (.slice (some ⟨b, off, none⟩) n cap) pv u (setR u t 0 (takes (sysOf T Z n) t u.now x d)) dn dn Y Y1 w w5) := HM.out.below hb5
      have hs5 := hb5.size
      have j3' := (hb5.cell (p := ⟨Y.jb t (dn t), 3, none⟩) hjl1).trans j3
      have j4' := (hb5.cell (p := ⟨Y.jb t (dn t), 4, none⟩) hjl1).trans j4
      have j5' := (hb5.cell (p := ⟨Y.jb t (dn t), 5, none⟩) hjl1).trans j5
      have k1' := (hb5.cell (p := ⟨sb, so + s1 * 2, none⟩) hsb1).trans k1
      have k2' := (hb5.cell (p := ⟨sb, so + s1 * 2 + 1, none⟩) hsb1).trans k2
      have c4' := (hb5.cell (p := ⟨Y.wb, 4, none⟩) hwl1).trans c4
      have hsb5 : sb < w5.heap.size := by omega
      have hjl5 : Y.jb t (dn t) < w5.heap.size := by omega
      have hwl5 : Y.wb < w5.heap.size := by omega
      clear HFREE hb5 j3 j4 j5 k1 k2 c4 hs5
      have HA5 := HM5.out.at'
      have hx5 : ((setR u t 0 (takes (sysOf T Z n) t u.now x d)).runs t)[0]? = some (takes (sysOf T Z n) t u.now x d) := by rw [setR_head HXX.out]; rfl
      have i1 := HA5.irow t ht 0 _ hx5 1 (by omega)
      have i2 := HA5.irow t ht 0 _ hx5 2 (by omega)
      have HJ5 := HA5.jrow t ht 0 _ hx5
      simp only [Nat.add_zero] at i1 i2 HJ5
      rw [hY1] at HJ5
      have hs1 : (lst (takes (sysOf T Z n) t u.now x d) 1).length ≤ 16 := by
        show (takes (sysOf T Z n) t u.now x d).held.length ≤ 16
        rw [takes_len]; omega
      have HI1 : Hid (SL 3 w5 w0.heap.size (Y1.V 1 t (dn t)) (ints (takes (sysOf T Z n) t u.now x d).held)) := i1
      have HI2 : Hid (SL 3 w5 w0.heap.size (Y1.V 2 t (dn t)) (ints (takes (sysOf T Z n) t u.now x d).since)) := i2
      have HJ : Hid (w5.rowIs (Y.jb t (dn t)) 80 8 (rcell t (takes (sysOf T Z n) t u.now x d) fun c => Y1.V c t (dn t))) := HJ5
      have hB5 : w0.heap.size ≤ w5.heap.size := by have := HM5.out.fr.size; omega
      have HLN : Hid ((ints (takes (sysOf T Z n) t u.now x d).held).length ≤ 1000) := by
        unfold Hid; rw [ints_len]; exact Nat.le_trans hs1 (by omega)
      have HLS : Hid ((ints (takes (sysOf T Z n) t u.now x d).since).length ≤ 1000) := by
        unfold Hid; rw [ints_len]
        show (x.since ++ List.replicate d u.now).length ≤ 1000
        rw [List.length_append, List.length_replicate, HSL.out]
        omega
      have HD12 : Hid (∀ b, (Y1.V 1 t (dn t)).ownBlock = some b → (Y1.V 2 t (dn t)).ownBlock ≠ some b) := by
        intro b hb e
        have hl := wlive_get (n := n) (dn := dn) ht hx5
        exact absurd (HM5.out.sep.iv 1 t _ 2 t _ b (by omega) (by omega) hl hl hb e).1 (by decide)
      clear i1 i2 HJ5 HA5 hx5 hs1
      have HBD : Hid (w0.heap.size ≤ (w5.drew.alloc (.cells #[.int .i64 (T.N t s1)] 3)).heap.size) := by
        have := (bel_da w5 (.cells #[.int .i64 (T.N t s1)] 3)).size
        unfold Hid; omega
      have hjb0 : w0.heap.size ≤ Y.jb t (dn t) := by
        have := HA.out.lo.2.2 t ht 0 (by rw [HXX.out]; simp)
        rwa [Nat.add_zero] at this
      have hsb0 : sb < w0.heap.size := (HPG.out w0 (Below.refl _ _)).1
      have HW5 : Hid (w5.rowIs Y.wb 71 8 (wcell kb n (.slice (some ⟨b, off, none⟩) n cap) pv Y1.rb (setR u t 0 (takes (sysOf T Z n) t u.now x d)))) := by
        have := HM5.out.at'.wrow
        rw [hwb] at this
        exact this
      have HAPP : Hid (∀ v6 w6, SL 3 w6 w0.heap.size v6 (ints (takes (sysOf T Z n) t u.now x d).held ++ [.int .i64 (T.N t s1)]) → Fr (fun q => (Y1.V 1 t (dn t)).ownBlock = some q) (w5.drew.alloc (.cells #[.int .i64 (T.N t s1)] 3)) w6 → (∃ ao cp, v6 = .slice ao (x.held.length + d + 1) cp) ∧ w6.cell? ⟨Y.jb t (dn t), 3, none⟩ = some (.int .i64 (s1 : Nat)) ∧ w6.cell? ⟨sb, so + s1 * 2 + 1, none⟩ = some (.int .i64 (T.N t s1)) ∧ w6.cell? ⟨Y.jb t (dn t), 5, none⟩ = some (Y1.V 2 t (dn t)) ∧ w6.cell? ⟨Y.jb t (dn t), 4, none⟩ = some (Y1.V 1 t (dn t)) ∧ w6.frozen? ⟨Y.jb t (dn t), 4, none⟩ = false ∧ w6.cell? ⟨Y.wb, 4, none⟩ = some (.int .i64 u.now) ∧ Y.jb t (dn t) < w6.heap.size ∧ Y.wb < w6.heap.size) := by
        intro v6 w6 hv6 hf6
        have hr6 := row_app HJ.out HI1.out hf6
        obtain ⟨ao, cp, hsh⟩ := hv6.shape
        rw [List.length_append, ints_len, takes_len] at hsh
        have hw6 := cell_app (i := 4) HW5.out (by decide) HI1.out hf6
        rw [c4'] at hw6
        refine ⟨⟨ao, cp, hsh⟩, by rw [HS1.out]; exact hr6.cell (by omega), (cell_app_lo hsb5 hsb0 HI1.out hf6).trans k2', hr6.cell (by omega), hr6.cell (by omega), hr6.frozen 4, hw6, hr6.lt, ?_⟩
        have g1 := (bel_da w5 (.cells #[.int .i64 (T.N t s1)] 3)).size
        have g2 := hf6.size
        omega
      have nwj : Y.wb ≠ Y.jb t (dn t) := row_ne HW5.out HJ.out (by decide)
      have HEND : Hid (∀ v6 w6 w7 v8 w8, w6.setCell ⟨Y.jb t (dn t), 4, none⟩ v6 = w7 → SL 3 w6 w0.heap.size v6 (ints (takes (sysOf T Z n) t u.now x d).held ++ [.int .i64 (T.N t s1)]) → Fr (fun q => (Y1.V 1 t (dn t)).ownBlock = some q) (w5.drew.alloc (.cells #[.int .i64 (T.N t s1)] 3)) w6 → (∀ b, v6.ownBlock = some b → (Y1.V 1 t (dn t)).ownBlock = some b ∨ (w5.drew.alloc (.cells #[.int .i64 (T.N t s1)] 3)).heap.size ≤ b) →
          SL 3 w8 w0.heap.size v8 (ints (takes (sysOf T Z n) t u.now x d).since ++ [.int .i64 u.now]) → Fr (fun q => (Y1.V 2 t (dn t)).ownBlock = some q) (w7.drew.alloc (.cells #[.int .i64 u.now] 3)) w8 → (∀ b, v8.ownBlock = some b → (Y1.V 2 t (dn t)).ownBlock = some b ∨ (w7.drew.alloc (.cells #[.int .i64 u.now] 3)).heap.size ≤ b) → w8.cell? ⟨Y.jb t (dn t), 3, none⟩ = some (.int .i64 (s1 : Nat)) →
          (∃ d Y', x.step + d ≤ q ∧ Y'.jb = Y.jb ∧ WMove w0.heap.size n kb (.slice (some ⟨b, off, none⟩) n cap) pv u (setR u t 0 (takes (sysOf T Z n) t u.now x d)) dn dn Y Y' w ((w8.setCell ⟨Y.jb t (dn t), 5, none⟩ v8).setCell ⟨Y.jb t (dn t), 3, none⟩ (.int .i64 (s1 + 1)))) ∧ T.L t - stepOf (Y.jb t (dn t)) ((w8.setCell ⟨Y.jb t (dn t), 5, none⟩ v8).setCell ⟨Y.jb t (dn t), 3, none⟩ (.int .i64 (s1 + 1))) < T.L t - stepOf (Y.jb t (dn t)) wr) := by
        intro v6 w6 w7 v8 w8 e7 s6 f6 n6 s8 f8 n8 j38
        subst e7
        have hx5 : ((setR u t 0 (takes (sysOf T Z n) t u.now x d)).runs t)[0]? = some (takes (sysOf T Z n) t u.now x d) := by rw [setR_head HXX.out]; rfl
        have K := WAt.takeOne (w5 := w5) (w6 := w6) (w7 := w8) (r := T.N t s1) (now := u.now) (v6 := v6) (v7 := v8) (o6 := .cells #[.int .i64 (T.N t s1)] 3) (o7 := .cells #[.int .i64 u.now] 3) HM5.out.at' HM5.out.sep ht hx5 s6 f6 n6 s8 (by rw [hY1]; exact f8) (by rw [hY1]; exact n8)
        rw [setR_twice] at K
        have e1 : { takes (sysOf T Z n) t u.now x d with step := (takes (sysOf T Z n) t u.now x d).step + 1, held := (takes (sysOf T Z n) t u.now x d).held ++ [T.N t s1], since := (takes (sysOf T Z n) t u.now x d).since ++ [u.now] } = takes (sysOf T Z n) t u.now x (d + 1) := by rw [HS1.out]; exact takes_succ (sysOf T Z n) t u.now x d
        have e2 : (((takes (sysOf T Z n) t u.now x d).step + 1 : Nat) : Int) = (s1 : Int) + 1 := by rw [HS1.out]; rfl
        rw [e1, e2, hY1] at K
        refine ⟨⟨d + 1, setY Y1 t (dn t + 0) (fun c => if c = 0 then Y1.V 0 t (dn t + 0) else if c = 1 then v6 else v8), by have := HS1.out; omega, hY1, HM5.out.trans K⟩, ?_⟩
        have hc : ((w8.setCell ⟨Y.jb t (dn t), 5, none⟩ v8).setCell ⟨Y.jb t (dn t), 3, none⟩ (.int .i64 (s1 + 1))).cell? ⟨Y.jb t (dn t), 3, none⟩ = some (.int .i64 (s1 + 1)) := World.cell?_setCell_same (w8.setCell ⟨Y.jb t (dn t), 5, none⟩ v8) ⟨Y.jb t (dn t), 3, none⟩ (.int .i64 (s1 + 1)) (set_ne (by simp) j38)
        have e3 : stepOf (Y.jb t (dn t)) ((w8.setCell ⟨Y.jb t (dn t), 5, none⟩ v8).setCell ⟨Y.jb t (dn t), 3, none⟩ (.int .i64 (s1 + 1))) = s1 + 1 := by
          unfold stepOf
          rw [hc]
          show ((s1 : Int) + 1).toNat = s1 + 1
          omega
        rw [e3, hmeas]
        omega
      clear hmeas
      have n34 : (⟨Y.jb t (dn t), 3, none⟩ : Addr) ≠ ⟨Y.jb t (dn t), 4, none⟩ := by simp
      have nsj : (⟨sb, so + s1 * 2 + 1, none⟩ : Addr) ≠ ⟨Y.jb t (dn t), 4, none⟩ := by
        intro e
        have : sb = Y.jb t (dn t) := congrArg Addr.block e
        omega
      go_wp2_with fail
      go_region_law (refine step_append_sl rfl (.tmp 89) (.tmp 98) 23 rfl 3 i0 _ Tryz.underlying23 hi0 hz0 hz1 hz2 rfl w0.heap.size (Y1.V 1 t (dn t)) (ints (takes (sysOf T Z n) t u.now x d).held) (by simp [Act.eval]) (HI1.out.da _) HLN.out HBD.out ⟨w5.heap.size, 0, none⟩ 1 (.int .i64 (T.N t s1)) (by simp [Act.eval]) (cell_da w5 _ 3) rfl ?_; intro v6 w6 hs6 hf6 hn6; obtain ⟨⟨ao6, cp6, hv6⟩, j36, k26, j56, j46, z46, c46, hjl6, hwl6⟩ := HAPP.out v6 w6 hs6 hf6; subst hv6)
      all_goals
        have HS6 : Hid _ := hs6
        have HF6 : Hid _ := hf6
        have HN6 : Hid _ := hn6
        clear hs6 hf6 hn6
        have j57 : (w6.setCell ⟨Y.jb t (dn t), 4, none⟩ (.slice ao6 (x.held.length + d + 1) cp6)).cell? ⟨Y.jb t (dn t), 5, none⟩ = some (Y1.V 2 t (dn t)) := set_ne (by simp) j56
        have j37 : (w6.setCell ⟨Y.jb t (dn t), 4, none⟩ (.slice ao6 (x.held.length + d + 1) cp6)).cell? ⟨Y.jb t (dn t), 3, none⟩ = some (.int .i64 (s1 : Nat)) := set_ne (by simp) j36
        have c47 : (w6.setCell ⟨Y.jb t (dn t), 4, none⟩ (.slice ao6 (x.held.length + d + 1) cp6)).cell? ⟨Y.wb, 4, none⟩ = some (.int .i64 u.now) := set_ne (by simp) c46
        have hz7 : (w6.setCell ⟨Y.jb t (dn t), 4, none⟩ (.slice ao6 (x.held.length + d + 1) cp6)).heap.size = w6.heap.size := by simp
        rw [← hz7] at hjl6 hwl6
        clear j36 k26 j56 j46 z46 c46
        have HJ7 : Hid (World.rowIs (w6.setCell ⟨Y.jb t (dn t), 4, none⟩ (.slice ao6 (x.held.length + d + 1) cp6)) (Y.jb t (dn t)) 80 8 (fun p => if p = 4 then .slice ao6 (x.held.length + d + 1) cp6 else rcell t (takes (sysOf T Z n) t u.now x d) (fun c => Y1.V c t (dn t)) p)) := (row_app HJ.out HI1.out HF6.out).set 4 _
        have HI7 : Hid (SL 3 (w6.setCell ⟨Y.jb t (dn t), 4, none⟩ (.slice ao6 (x.held.length + d + 1) cp6)) w0.heap.size (Y1.V 2 t (dn t)) (ints (takes (sysOf T Z n) t u.now x d).since)) := sl_app_other HI2.out HJ.out HF6.out HD12.out
        have hB7 : w0.heap.size ≤ (w6.setCell ⟨Y.jb t (dn t), 4, none⟩ (.slice ao6 (x.held.length + d + 1) cp6)).heap.size := by
          rw [hz7]
          have g1 := HF6.out.size
          have g2 := HBD.out
          omega
        clear hz7
        generalize hW7 : w6.setCell ⟨Y.jb t (dn t), 4, none⟩ (.slice ao6 (x.held.length + d + 1) cp6) = w7 at *
        have HW7 : Hid _ := hW7
        clear hW7
        have HAPP8 : Hid (∀ v8 w8, SL 3 w8 w0.heap.size v8 (ints (takes (sysOf T Z n) t u.now x d).since ++ [.int .i64 u.now]) → Fr (fun q => (Y1.V 2 t (dn t)).ownBlock = some q) (w7.drew.alloc (.cells #[.int .i64 u.now] 3)) w8 → (∃ ao ln cp, v8 = .slice ao ln cp) ∧ w8.cell? ⟨Y.jb t (dn t), 3, none⟩ = some (.int .i64 (s1 : Nat)) ∧ w8.frozen? ⟨Y.jb t (dn t), 3, none⟩ = false ∧ w8.cell? ⟨Y.jb t (dn t), 5, none⟩ = some (Y1.V 2 t (dn t)) ∧ w8.frozen? ⟨Y.jb t (dn t), 5, none⟩ = false ∧ Y.jb t (dn t) < w8.heap.size) := by
          intro v8 w8 hv8 hf8
          have hr8 := row_app HJ7.out HI7.out hf8
          obtain ⟨ao, cp, hsh⟩ := hv8.shape
          refine ⟨⟨ao, _, cp, hsh⟩, ?_, hr8.frozen 3, hr8.cell (by omega), hr8.frozen 5, hr8.lt⟩
          rw [HS1.out]
          exact hr8.cell (by omega)
        have HB8 : Hid (w0.heap.size ≤ (w7.drew.alloc (.cells #[.int .i64 u.now] 3)).heap.size) := by
          have := (bel_da w7 (.cells #[.int .i64 u.now] 3)).size
          unfold Hid; omega
        go_wp2_with fail
        go_region_law (refine step_append_sl rfl (.tmp 106) (.tmp 111) 23 rfl 3 i0 _ Tryz.underlying23 hi0 hz0 hz1 hz2 rfl w0.heap.size (Y1.V 2 t (dn t)) (ints (takes (sysOf T Z n) t u.now x d).since) (by simp [Act.eval]) (HI7.out.da _) HLS.out HB8.out ⟨w7.heap.size, 0, none⟩ 1 (.int .i64 u.now) (by simp [Act.eval]) (cell_da w7 _ 3) rfl ?_; intro v8 w8 hs8 hf8 hn8; obtain ⟨⟨ao8, ln8, cp8, hv8⟩, j38, z38, j58, z58, hjl8⟩ := HAPP8.out v8 w8 hs8 hf8; subst hv8)
        all_goals
          have HS8 : Hid _ := hs8
          have HF8 : Hid _ := hf8
          have HN8 : Hid _ := hn8
          clear hs8 hf8 hn8
          go_wp2
          exact HEND.out _ _ _ _ _ HW7.out HS6.out HF6.out HN6.out HS8.out HF8.out HN8.out j38
    · obtain rfl : q = s1 := by omega
      obtain ⟨k1, k2⟩ := hst1 q (by omega)
      rw [q3] at k1
      clear hM hst1 hj hi1 hi2 HAr HSr HBr hx1 hmeas
      have HFIN : Hid (goesW (sysOf T Z n) t u.now x = takes (sysOf T Z n) t u.now x d) := by
        unfold Hid
        rw [← HALL.out, show q - x.step = d from by omega]
      clear hs1
      go_wp2
      go_ret
      refine ⟨rfl, Y1, hY1, ?_⟩
      rw [HFIN.out]
      exact HM.out

end Go.Proofs.YtdabcflpcklfiaaGreat
