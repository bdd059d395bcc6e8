import Derived.Test.YtdabcflpcklfiaaVk
/- The law looks whether every wait is fair. -/
namespace Go.Proofs.Ytdabcflpcklfiaa
open Go.RowKit Cad

/-- One run is written, and its lists lie where they lay. -/
theorem WAt.putRun {w w' : World} {B n kb : Nat} {tv pv : Value} {u : Wt} {dn : Nat → Nat} {Y : WL} (h : WAt w B n kb tv pv u dn Y) (hs : WSep n u dn Y) {t i : Nat} {x x' : Wr} {Vn : Nat → Value} (ht : t < n) (hx : (u.runs t)[i]? = some x)
    (hf : Fr (fun q => q = Y.jb t (dn t + i) ∨ ∃ c, c < 3 ∧ (Y.V c t (dn t + i)).ownBlock = some q) w w') (hrow : w'.rowIs (Y.jb t (dn t + i)) 94 8 (rcell t x' Vn)) (hi : ∀ c, c < 3 → SL 3 w' B (Vn c) (ints (lst x' c)))
    (hn : ∀ c, c < 3 → ∀ b, (Vn c).ownBlock = some b → (Y.V c t (dn t + i)).ownBlock = some b) :
    WMove B n kb tv pv u (setR u t i x') dn dn Y (setY Y t (dn t + i) Vn) w w' := by
  have hl := wlive_get (n := n) (dn := dn) ht hx
  obtain ⟨h1, h2, h3⟩ := h.updRun hs ht hx hf hrow hi (fun c hc b hb => .inl (hn c hc b hb)) (fun c c' b hc hc' e1 e2 => (hs.iv c t _ c' t _ b hc hc' hl hl (hn c hc b e1) (hn c' hc' b e2)).1)
  exact ⟨h1, h2, hf.mono (fun q hq => by
    rcases hq with rfl | ⟨c, hc, g⟩
    · exact .inr (.inr (.inr (.inl ⟨t, _, hl, rfl⟩)))
    · exact .inr (.inr (.inr (.inr ⟨c, t, _, hc, hl, g⟩)))), h3, rfl⟩

theorem SL.setJ {w : World} {B jb q : Nat} {v y : Value} {l : List Value} {F : Nat → Value} (hv : SL 3 w B v l) (hr : w.rowIs jb 94 8 F) : SL 3 (w.setCell ⟨jb, q, none⟩ y) B v l := hv.of_block (fun b hb => Deep.blk_setCell_other _ _ _ _ (fun e => hv.ne hr (by decide) (by rw [← (show b = jb from e)]; exact hb)))

/-- Whom a run waits for is written. -/
theorem WAt.setBk {w : World} {B n kb : Nat} {tv pv : Value} {u : Wt} {dn : Nat → Nat} {Y : WL} (h : WAt w B n kb tv pv u dn Y) (hs : WSep n u dn Y) {t : Nat} {y : Wr} (ht : t < n) (hx : (u.runs t)[0]? = some y) (bk fr : Int) :
    WMove B n kb tv pv u (setR u t 0 { y with bk := bk, fr := fr }) dn dn Y (setY Y t (dn t + 0) (fun c => Y.V c t (dn t + 0))) w ((w.setCell ⟨Y.jb t (dn t), 6, none⟩ (.int .i64 bk)).setCell ⟨Y.jb t (dn t), 7, none⟩ (.int .i64 fr)) := by
  have hj := h.jrow t ht 0 y hx
  have hj1 := hj.set 6 (.int .i64 bk)
  have hj2 := hj1.set 7 (.int .i64 fr)
  refine h.putRun hs ht hx (((Fr.refl _ _).setCell (.inl (.inl rfl)) _).setCell (.inl (.inl rfl)) _) (hj2.congr ?_) (fun c hc => ?_) (fun c hc b hb => hb)
  · intro p hp
    match p, hp with
    | 0, _ => rfl
    | 1, _ => rfl
    | 2, _ => rfl
    | 3, _ => rfl
    | 4, _ => rfl
    | 5, _ => rfl
    | 6, _ => rfl
    | 7, _ => rfl
  · exact ((h.irow t ht 0 y hx c hc).setJ hj).setJ hj1

/-- What the law has written when it has looked at k tasks. -/
def fairTo (S : Sy) (u : Wt) (t : Nat) (x : Wr) (k : Nat) : Wt := { u with runs := fun a => if a < k then fairW S u.now t x a (u.runs a) else u.runs a }

theorem fairTo_zero (S : Sy) (u : Wt) (t : Nat) (x : Wr) : fairTo S u t x 0 = u := by
  unfold fairTo
  have : (fun a => if a < 0 then fairW S u.now t x a (u.runs a) else u.runs a) = u.runs := funext (fun a => if_neg (by omega))
  rw [this]

theorem fairTo_at (S : Sy) (u : Wt) (t : Nat) (x : Wr) (k : Nat) : (fairTo S u t x k).runs k = u.runs k := if_neg (by omega)

theorem fairW_self (S : Sy) (now : Int) (t : Nat) (x : Wr) (l : List Wr) : fairW S now t x t l = l := by
  unfold fairW
  cases l with
  | nil => rfl
  | cons y r => exact if_neg (by omega)

theorem fairW_len (S : Sy) (now : Int) (t : Nat) (x : Wr) (a : Nat) (l : List Wr) : (fairW S now t x a l).length = l.length := by
  unfold fairW
  cases l with
  | nil => rfl
  | cons y r =>
    show (if _ then _ else _ : List Wr).length = _
    split <;> rfl

theorem fairTo_self (S : Sy) (u : Wt) (t : Nat) (x : Wr) (k : Nat) : (fairTo S u t x k).runs t = u.runs t := by
  show (if t < k then fairW S u.now t x t (u.runs t) else u.runs t) = _
  rw [fairW_self]
  split <;> rfl

theorem fairTo_len (S : Sy) (u : Wt) (t : Nat) (x : Wr) (k a : Nat) : ((fairTo S u t x k).runs a).length = (u.runs a).length := by
  show (if a < k then fairW S u.now t x a (u.runs a) else u.runs a).length = _
  split
  · exact fairW_len ..
  · rfl

theorem fairTo_skip {S : Sy} {u : Wt} {t : Nat} {x : Wr} {k : Nat} (h : fairW S u.now t x k (u.runs k) = u.runs k) : fairTo S u t x (k + 1) = fairTo S u t x k := by
  unfold fairTo
  congr 1
  funext a
  by_cases e : a = k
  · subst e
    rw [if_pos (by omega), if_neg (by omega), h]
  · by_cases g : a < k
    · rw [if_pos (by omega), if_pos g]
    · rw [if_neg (by omega), if_neg g]

theorem fairTo_put {S : Sy} {u : Wt} {t : Nat} {x : Wr} {k : Nat} {y : Wr} {l : List Wr} (hy : u.runs k = y :: l) (hr : y.ready ≤ u.now) (hz : S.Z t < S.Z k) : fairTo S u t x (k + 1) = setR (fairTo S u t x k) k 0 { y with bk := (t : Int), fr := sectOf S.C (S.Z k) x.held x.since } := by
  have e0 := fairTo_at S u t x k
  have e1 : fairW S u.now t x k (u.runs k) = { y with bk := (t : Int), fr := sectOf S.C (S.Z k) x.held x.since } :: l := by
    rw [hy]
    exact if_pos ⟨hr, hz⟩
  show (⟨_, _, _, _, _⟩ : Wt) = ⟨_, _, _, _, _⟩
  congr 1
  funext a
  by_cases e : a = k
  · subst e
    show (if a < a + 1 then fairW S u.now t x a (u.runs a) else u.runs a) = upd _ _ _ a
    rw [upd_same, if_pos (by omega), e1, e0, hy]
    rfl
  · show (if a < k + 1 then fairW S u.now t x a (u.runs a) else u.runs a) = upd _ _ _ a
    rw [upd_other _ _ e]
    show _ = (if a < k then fairW S u.now t x a (u.runs a) else u.runs a)
    by_cases g : a < k
    · rw [if_pos (by omega), if_pos g]
    · rw [if_neg (by omega), if_neg g]

end Go.Proofs.Ytdabcflpcklfiaa
