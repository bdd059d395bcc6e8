import Derived.Test.YtdabcflpcklfiaaVm
/- What a tick of the law writes. -/
namespace Go.Proofs.Ytdabcflpcklfiaa
open Go.RowKit Cad

/-- One number of a run is written. -/
theorem WAt.setOne {w : World} {B n kb : Nat} {tv pv : Value} {u : Wt} {dn : Nat → Nat} {Y : WL} (h : WAt w B n kb tv pv u dn Y) (hs : WSep n u dn Y) {t i : Nat} {x : Wr} (ht : t < n) (hx : (u.runs t)[i]? = some x) (q : Nat) (v : Value) (x' : Wr) (Vn : Nat → Value)
    (hc : ∀ p, p < 8 → rcell t x' Vn p = if p = q then v else rcell t x (fun c => Y.V c t (dn t + i)) p) (hi : ∀ c, c < 3 → SL 3 w B (Vn c) (ints (lst x' c))) (hn : ∀ c, c < 3 → ∀ b, (Vn c).ownBlock = some b → (Y.V c t (dn t + i)).ownBlock = some b) :
    WMove B n kb tv pv u (setR u t i x') dn dn Y (setY Y t (dn t + i) Vn) w (w.setCell ⟨Y.jb t (dn t + i), q, none⟩ v) := by
  have hj := h.jrow t ht i x hx
  exact h.putRun hs ht hx ((Fr.refl _ _).setCell (.inl (.inl rfl)) _) ((hj.set q v).congr (fun p hp => (hc p hp).symm)) (fun c hc => (hi c hc).setJ hj) hn

/-- The same where the lists stay. -/
theorem WAt.setNum {w : World} {B n kb : Nat} {tv pv : Value} {u : Wt} {dn : Nat → Nat} {Y : WL} (h : WAt w B n kb tv pv u dn Y) (hs : WSep n u dn Y) {t i : Nat} {x : Wr} (ht : t < n) (hx : (u.runs t)[i]? = some x) (q : Nat) (v : Value) (x' : Wr)
    (hc : ∀ p, p < 8 → rcell t x' (fun c => Y.V c t (dn t + i)) p = if p = q then v else rcell t x (fun c => Y.V c t (dn t + i)) p) (hl : ∀ c, lst x' c = lst x c) :
    WMove B n kb tv pv u (setR u t i x') dn dn Y (setY Y t (dn t + i) (fun c => Y.V c t (dn t + i))) w (w.setCell ⟨Y.jb t (dn t + i), q, none⟩ v) :=
  h.setOne hs ht hx q v x' _ hc (fun c hc => by rw [hl]; exact h.irow t ht i x hx c hc) (fun _ _ _ hb => hb)

/-- The step is written. -/
theorem WAt.setStep {w : World} {B n kb : Nat} {tv pv : Value} {u : Wt} {dn : Nat → Nat} {Y : WL} (h : WAt w B n kb tv pv u dn Y) (hs : WSep n u dn Y) {t i : Nat} {x : Wr} (ht : t < n) (hx : (u.runs t)[i]? = some x) (s : Nat) :
    WMove B n kb tv pv u (setR u t i { x with step := s }) dn dn Y (setY Y t (dn t + i) (fun c => Y.V c t (dn t + i))) w (w.setCell ⟨Y.jb t (dn t + i), 3, none⟩ (.int .i64 (s : Int))) := by
  refine h.setNum hs ht hx 3 _ { x with step := s } (fun p hp => ?_) (fun c => rfl)
  match p, hp with
  | 0, _ => rfl
  | 1, _ => rfl
  | 2, _ => rfl
  | 3, _ => rfl
  | 4, _ => rfl
  | 5, _ => rfl
  | 6, _ => rfl
  | 7, _ => rfl

/-- When it is ready is written. -/
theorem WAt.setReady {w : World} {B n kb : Nat} {tv pv : Value} {u : Wt} {dn : Nat → Nat} {Y : WL} (h : WAt w B n kb tv pv u dn Y) (hs : WSep n u dn Y) {t i : Nat} {x : Wr} (ht : t < n) (hx : (u.runs t)[i]? = some x) (s : Int) :
    WMove B n kb tv pv u (setR u t i { x with ready := s }) dn dn Y (setY Y t (dn t + i) (fun c => Y.V c t (dn t + i))) w (w.setCell ⟨Y.jb t (dn t + i), 1, none⟩ (.int .i64 s)) := by
  refine h.setNum hs ht hx 1 _ { x with ready := s } (fun p hp => ?_) (fun c => rfl)
  match p, hp with
  | 0, _ => rfl
  | 1, _ => rfl
  | 2, _ => rfl
  | 3, _ => rfl
  | 4, _ => rfl
  | 5, _ => rfl
  | 6, _ => rfl
  | 7, _ => rfl

/-- One list of a run is cut: what it is cut to lies in its block. -/
theorem WAt.setLeft {w : World} {B n kb : Nat} {tv pv : Value} {u : Wt} {dn : Nat → Nat} {Y : WL} (h : WAt w B n kb tv pv u dn Y) (hs : WSep n u dn Y) {t i : Nat} {x : Wr} (ht : t < n) (hx : (u.runs t)[i]? = some x) {v : Value} {r : List Int} (hv : SL 3 w B v (ints r)) (hb : ∀ b, v.ownBlock = some b → (Y.V 0 t (dn t + i)).ownBlock = some b) :
    WMove B n kb tv pv u (setR u t i { x with left := r }) dn dn Y (setY Y t (dn t + i) (fun c => if c = 0 then v else Y.V c t (dn t + i))) w (w.setCell ⟨Y.jb t (dn t + i), 2, none⟩ v) := by
  refine h.setOne hs ht hx 2 _ { x with left := r } _ (fun p hp => ?_) (fun c hc => ?_) (fun c hc b hb' => ?_)
  · match p, hp with
    | 0, _ => rfl
    | 1, _ => rfl
    | 2, _ => rfl
    | 3, _ => rfl
    | 4, _ => rfl
    | 5, _ => rfl
    | 6, _ => rfl
    | 7, _ => rfl
  · match c, hc with
    | 0, _ => exact hv
    | 1, _ => exact h.irow t ht i x hx 1 (by omega)
    | 2, _ => exact h.irow t ht i x hx 2 (by omega)
  · match c, hc, hb' with
    | 0, _, hb' => exact hb b hb'
    | 1, _, hb' => exact hb'
    | 2, _, hb' => exact hb'

theorem WAt.setHeld {w : World} {B n kb : Nat} {tv pv : Value} {u : Wt} {dn : Nat → Nat} {Y : WL} (h : WAt w B n kb tv pv u dn Y) (hs : WSep n u dn Y) {t i : Nat} {x : Wr} (ht : t < n) (hx : (u.runs t)[i]? = some x) {v : Value} {r : List Int} (hv : SL 3 w B v (ints r)) (hb : ∀ b, v.ownBlock = some b → (Y.V 1 t (dn t + i)).ownBlock = some b) :
    WMove B n kb tv pv u (setR u t i { x with held := r }) dn dn Y (setY Y t (dn t + i) (fun c => if c = 1 then v else Y.V c t (dn t + i))) w (w.setCell ⟨Y.jb t (dn t + i), 4, none⟩ v) := by
  refine h.setOne hs ht hx 4 _ { x with held := r } _ (fun p hp => ?_) (fun c hc => ?_) (fun c hc b hb' => ?_)
  · match p, hp with
    | 0, _ => rfl
    | 1, _ => rfl
    | 2, _ => rfl
    | 3, _ => rfl
    | 4, _ => rfl
    | 5, _ => rfl
    | 6, _ => rfl
    | 7, _ => rfl
  · match c, hc with
    | 0, _ => exact h.irow t ht i x hx 0 (by omega)
    | 1, _ => exact hv
    | 2, _ => exact h.irow t ht i x hx 2 (by omega)
  · match c, hc, hb' with
    | 0, _, hb' => exact hb'
    | 1, _, hb' => exact hb b hb'
    | 2, _, hb' => exact hb'

theorem WAt.setSince {w : World} {B n kb : Nat} {tv pv : Value} {u : Wt} {dn : Nat → Nat} {Y : WL} (h : WAt w B n kb tv pv u dn Y) (hs : WSep n u dn Y) {t i : Nat} {x : Wr} (ht : t < n) (hx : (u.runs t)[i]? = some x) {v : Value} {r : List Int} (hv : SL 3 w B v (ints r)) (hb : ∀ b, v.ownBlock = some b → (Y.V 2 t (dn t + i)).ownBlock = some b) :
    WMove B n kb tv pv u (setR u t i { x with since := r }) dn dn Y (setY Y t (dn t + i) (fun c => if c = 2 then v else Y.V c t (dn t + i))) w (w.setCell ⟨Y.jb t (dn t + i), 5, none⟩ v) := by
  refine h.setOne hs ht hx 5 _ { x with since := r } _ (fun p hp => ?_) (fun c hc => ?_) (fun c hc b hb' => ?_)
  · match p, hp with
    | 0, _ => rfl
    | 1, _ => rfl
    | 2, _ => rfl
    | 3, _ => rfl
    | 4, _ => rfl
    | 5, _ => rfl
    | 6, _ => rfl
    | 7, _ => rfl
  · match c, hc with
    | 0, _ => exact h.irow t ht i x hx 0 (by omega)
    | 1, _ => exact h.irow t ht i x hx 1 (by omega)
    | 2, _ => exact hv
  · match c, hc, hb' with
    | 0, _, hb' => exact hb'
    | 1, _, hb' => exact hb'
    | 2, _, hb' => exact hb b hb'

/-- One number of what is left is written. -/
theorem WAt.setIn {w : World} {B n kb : Nat} {tv pv : Value} {u : Wt} {dn : Nat → Nat} {Y : WL} (h : WAt w B n kb tv pv u dn Y) (hs : WSep n u dn Y) {t i : Nat} {x : Wr} (ht : t < n) (hx : (u.runs t)[i]? = some x) {g off k cap : Nat} (hV : Y.V 0 t (dn t + i) = .slice (some ⟨g, off, none⟩) k cap) (a : Int) :
    WMove B n kb tv pv u (setR u t i { x with left := x.left.set 0 a }) dn dn Y (setY Y t (dn t + i) (fun c => Y.V c t (dn t + i))) w (w.setCell ⟨g, off, none⟩ (.int .i64 a)) := by
  have hl := wlive_get (n := n) (dn := dn) ht hx
  have hj := h.jrow t ht i x hx
  have h0 := h.irow t ht i x hx 0 (by omega)
  have e0 : lst x 0 = x.left := rfl
  rw [hV, e0] at h0
  have hg : (Y.V 0 t (dn t + i)).ownBlock = some g := by rw [hV]; rfl
  have hne : ∀ c, c < 3 → c ≠ 0 → ∀ b, (Y.V c t (dn t + i)).ownBlock = some b → b ≠ g := fun c hc hc0 b hb e => by
    subst e
    exact hc0 (hs.iv c t _ 0 t _ b hc (by omega) hl hl hb hg).1
  refine h.putRun hs ht hx (Fr.setCell (Fr.refl _ _) (.inl (.inr ⟨0, by omega, hg⟩)) _) ?_ (fun c hc => ?_) (fun _ _ _ hb => hb)
  · refine World.rowIs.of_block (w := w) ?_ (Deep.blk_setCell_other _ _ _ _ (fun e => ?_))
    · exact hj.congr (fun p hp => by
        match p, hp with
        | 0, _ => rfl
        | 1, _ => rfl
        | 2, _ => rfl
        | 3, _ => rfl
        | 4, _ => rfl
        | 5, _ => rfl
        | 6, _ => rfl
        | 7, _ => rfl)
    · refine h0.ne hj (by decide) ?_
      rw [show Y.jb t (dn t + i) = g from e]
      rfl
  · match c, hc with
    | 0, _ =>
      have g1 := h0.set 0 (.int .i64 a)
      rw [Nat.add_zero] at g1
      show SL 3 _ B (Y.V 0 t (dn t + i)) (ints (x.left.set 0 a))
      rw [hV]
      have e1 : ints (x.left.set 0 a) = (ints x.left).set 0 (.int .i64 a) := by
        unfold ints
        rw [List.map_set]
      rw [e1]
      exact g1
    | 1, hc => exact (h.irow t ht i x hx 1 hc).of_block (fun b hb => Deep.blk_setCell_other _ _ _ _ (fun e => hne 1 hc (by decide) b hb e))
    | 2, hc => exact (h.irow t ht i x hx 2 hc).of_block (fun b hb => Deep.blk_setCell_other _ _ _ _ (fun e => hne 2 hc (by decide) b hb e))

/-- Only what the tasks have counts. -/
theorem WMove.congr {B n kb : Nat} {tv pv : Value} {u u1 u2 : Wt} {dn dn' : Nat → Nat} {Y Y' : WL} {w w' : World} (h : WMove B n kb tv pv u u1 dn dn' Y Y' w w') (hr : ∀ a, a < n → u2.runs a = u1.runs a) (h1 : u2.now = u1.now) (h2 : u2.idle = u1.idle) (h3 : u2.given = u1.given) (h4 : u2.asked = u1.asked) : WMove B n kb tv pv u u2 dn dn' Y Y' w w' := by
  have hl : ∀ t k, wlive n u2 dn' t k ↔ wlive n u1 dn' t k := fun t k => by
    constructor
    · rintro ⟨a, b, c⟩; rw [hr t a] at c; exact ⟨a, b, c⟩
    · rintro ⟨a, b, c⟩; refine ⟨a, b, ?_⟩; rw [hr t a]; exact c
  have hw : wcell kb n tv pv Y'.rb u2 = wcell kb n tv pv Y'.rb u1 := by
    funext q
    unfold wcell
    rw [h1, h2, h3, h4]
  obtain ⟨ha, hs, hf, ht, hb⟩ := h
  refine ⟨⟨by rw [hw]; exact ha.wrow, ha.rrow, fun t ht => by rw [hr t ht]; exact ha.srow t ht, fun t ht i x hx => ha.jrow t ht i x (by rw [← hr t ht]; exact hx), fun t ht i x hx => ha.irow t ht i x (by rw [← hr t ht]; exact hx), ha.lo.1, ha.lo.2.1, fun t ht i hi => ha.lo.2.2 t ht i (by rw [← hr t ht]; exact hi)⟩, ⟨hs.sl, fun t k t' k' g1 g2 => hs.jb t k t' k' ((hl _ _).1 g1) ((hl _ _).1 g2), fun c t k c' t' k' b hc hc' g1 g2 => hs.iv c t k c' t' k' b hc hc' ((hl _ _).1 g1) ((hl _ _).1 g2)⟩, hf, fun b hb => ht b ?_, hb⟩
  rcases hb with g | g | g | ⟨t, k, g1, g2⟩ | ⟨c, t, k, g1, g2, g3⟩
  · exact .inl g
  · exact .inr (.inl g)
  · exact .inr (.inr (.inl g))
  · exact .inr (.inr (.inr (.inl ⟨t, k, (hl _ _).1 g1, g2⟩)))
  · exact .inr (.inr (.inr (.inr ⟨c, t, k, g1, (hl _ _).1 g2, g3⟩)))

/-- A number of the watch's own is written. -/
theorem WAt.moveW {w : World} {B n kb : Nat} {tv pv : Value} {u : Wt} {dn : Nat → Nat} {Y : WL} (h : WAt w B n kb tv pv u dn Y) (hs : WSep n u dn Y) {q : Nat} {x : Int} {u' : Wt} (hr : u'.runs = u.runs) (hc : ∀ p, p < 8 → wcell kb n tv pv Y.rb u' p = if p = q then .int .i64 x else wcell kb n tv pv Y.rb u p) :
    WMove B n kb tv pv u u' dn dn Y Y w (w.setCell ⟨Y.wb, q, none⟩ (.int .i64 x)) := by
  have hl : ∀ t k, wlive n u' dn t k ↔ wlive n u dn t k := fun t k => by unfold wlive; rw [hr]
  refine ⟨h.setW hr hc, ⟨hs.sl, fun t k t' k' g1 g2 => hs.jb t k t' k' ((hl _ _).1 g1) ((hl _ _).1 g2), fun c t k c' t' k' b hc hc' g1 g2 => hs.iv c t k c' t' k' b hc hc' ((hl _ _).1 g1) ((hl _ _).1 g2)⟩, (Fr.refl _ _).setCell (.inl (.inl rfl)) _, fun b hb => .inl ?_, rfl⟩
  rcases hb with g | g | g | ⟨t, k, g1, g2⟩ | ⟨c, t, k, g1, g2, g3⟩
  · exact .inl g
  · exact .inr (.inl g)
  · exact .inr (.inr (.inl g))
  · exact .inr (.inr (.inr (.inl ⟨t, k, (hl _ _).1 g1, g2⟩)))
  · exact .inr (.inr (.inr (.inr ⟨c, t, k, g1, (hl _ _).1 g2, g3⟩)))

theorem WAt.moveNow {w : World} {B n kb : Nat} {tv pv : Value} {u : Wt} {dn : Nat → Nat} {Y : WL} (h : WAt w B n kb tv pv u dn Y) (hs : WSep n u dn Y) (x : Int) : WMove B n kb tv pv u { u with now := x } dn dn Y Y w (w.setCell ⟨Y.wb, 4, none⟩ (.int .i64 x)) := by
  refine h.moveW hs rfl (fun p hp => ?_)
  match p, hp with
  | 0, _ => rfl
  | 1, _ => rfl
  | 2, _ => rfl
  | 3, _ => rfl
  | 4, _ => rfl
  | 5, _ => rfl
  | 6, _ => rfl
  | 7, _ => rfl

theorem WAt.moveIdle {w : World} {B n kb : Nat} {tv pv : Value} {u : Wt} {dn : Nat → Nat} {Y : WL} (h : WAt w B n kb tv pv u dn Y) (hs : WSep n u dn Y) (x : Int) : WMove B n kb tv pv u { u with idle := x } dn dn Y Y w (w.setCell ⟨Y.wb, 5, none⟩ (.int .i64 x)) := by
  refine h.moveW hs rfl (fun p hp => ?_)
  match p, hp with
  | 0, _ => rfl
  | 1, _ => rfl
  | 2, _ => rfl
  | 3, _ => rfl
  | 4, _ => rfl
  | 5, _ => rfl
  | 6, _ => rfl
  | 7, _ => rfl

theorem WAt.moveGiven {w : World} {B n kb : Nat} {tv pv : Value} {u : Wt} {dn : Nat → Nat} {Y : WL} (h : WAt w B n kb tv pv u dn Y) (hs : WSep n u dn Y) (x : Int) : WMove B n kb tv pv u { u with given := x } dn dn Y Y w (w.setCell ⟨Y.wb, 6, none⟩ (.int .i64 x)) := by
  refine h.moveW hs rfl (fun p hp => ?_)
  match p, hp with
  | 0, _ => rfl
  | 1, _ => rfl
  | 2, _ => rfl
  | 3, _ => rfl
  | 4, _ => rfl
  | 5, _ => rfl
  | 6, _ => rfl
  | 7, _ => rfl

/-- The first run of a task is dropped. -/
theorem WAt.pop {w : World} {B n kb : Nat} {tv pv : Value} {u : Wt} {dn : Nat → Nat} {Y : WL} (h : WAt w B n kb tv pv u dn Y) (hs : WSep n u dn Y) {t : Nat} {x : Wr} {l : List Wr} (ht : t < n) (hx : u.runs t = x :: l) {v : Value} (hv : SL 92 w B v (ptrs Y t (dn t + 1) l.length)) (hb : ∀ b, v.ownBlock = some b → (Y.sv t).ownBlock = some b) :
    WMove B n kb tv pv u { u with runs := upd u.runs t l } dn (upd dn t (dn t + 1)) Y { Y with sv := upd Y.sv t v } w (w.setCell ⟨Y.rb, t, none⟩ v) := by
  have hl : ∀ a k, wlive n { u with runs := upd u.runs t l } (upd dn t (dn t + 1)) a k → wlive n u dn a k := by
    rintro a k ⟨g1, g2, g3⟩
    refine ⟨g1, ?_⟩
    by_cases e : a = t
    · subst e
      simp only [upd_same] at g2 g3
      rw [hx]
      simp only [List.length_cons]
      omega
    · simp only [upd_other _ _ e] at g2 g3
      exact ⟨g2, g3⟩
  have hget : ∀ a, a < n → ∀ (i : Nat) (y : Wr), (({ u with runs := upd u.runs t l } : Wt).runs a)[i]? = some y → ∃ i', (u.runs a)[i']? = some y ∧ upd dn t (dn t + 1) a + i = dn a + i' := by
    intro a ha i y hy
    by_cases e : a = t
    · subst e
      simp only [upd_same] at hy
      refine ⟨i + 1, by rw [hx]; simpa using hy, ?_⟩
      rw [upd_same]; omega
    · simp only [upd_other _ _ e] at hy
      exact ⟨i, hy, by rw [upd_other _ _ e]⟩
  have hne : ∀ b T N F, w.rowIs b T N F → T ≠ 95 → b ≠ Y.rb := fun b T N F hb hT => row_ne hb h.rrow hT
  have hsl : ∀ e v' l', SL e w B v' l' → e ≠ 95 → SL e (w.setCell ⟨Y.rb, t, none⟩ v) B v' l' := fun e v' l' hv' he => hv'.of_block (fun b hb => Deep.blk_setCell_other _ _ _ _ (fun e' => hv'.ne h.rrow (fun e => he e.symm) (by rw [← (show b = Y.rb from e')]; exact hb)))
  refine ⟨⟨?_, ?_, fun a ha => ?_, fun a ha i y hy => ?_, fun a ha i y hy c hc => ?_, h.lo.1, h.lo.2.1, fun a ha i hi => ?_⟩, ⟨fun a a' b ha ha' e1 e2 => ?_, fun a k a' k' g1 g2 => hs.jb a k a' k' (hl _ _ g1) (hl _ _ g2), fun c a k c' a' k' b hc hc' g1 g2 => hs.iv c a k c' a' k' b hc hc' (hl _ _ g1) (hl _ _ g2)⟩, (Fr.refl _ _).setCell (.inl (.inr (.inl rfl))) _, fun b hb' => .inl ?_, rfl⟩
  · exact h.wrow.setOther (by simpa using hne _ _ _ _ h.wrow (by decide)) _
  · refine (h.rrow.set t v).congr (fun p hp => ?_)
    show (if p = t then v else Y.sv p) = upd Y.sv t v p
    rfl
  · by_cases e : a = t
    · subst e
      show SL 92 _ B (upd Y.sv a v a) (ptrs Y a (upd dn a (dn a + 1) a) (upd u.runs a l a).length)
      rw [upd_same, upd_same, upd_same]
      exact hsl 92 v _ hv (by decide)
    · show SL 92 _ B (upd Y.sv t v a) (ptrs Y a (upd dn t (dn t + 1) a) (upd u.runs t l a).length)
      rw [upd_other _ _ e, upd_other _ _ e, upd_other _ _ e]
      exact hsl 92 _ _ (h.srow a ha) (by decide)
  · obtain ⟨i', hy', e⟩ := hget a ha i y hy
    have hj := h.jrow a ha i' y hy'
    rw [← e] at hj
    exact hj.setOther (by simpa using hne _ _ _ _ hj (by decide)) _
  · obtain ⟨i', hy', e⟩ := hget a ha i y hy
    have hj := h.irow a ha i' y hy' c hc
    rw [← e] at hj
    exact hsl 3 _ _ hj (by decide)
  · obtain ⟨i', hy', e⟩ := hget a ha i _ (List.getElem?_eq_getElem hi)
    show B ≤ Y.jb a (upd dn t (dn t + 1) a + i)
    rw [e]
    exact h.lo.2.2 a ha i' (List.getElem?_eq_some_iff.1 hy').1
  · have q : ∀ c, (upd Y.sv t v c).ownBlock = some b → (Y.sv c).ownBlock = some b := fun c hc => by
      by_cases e : c = t
      · subst e; rw [upd_same] at hc; exact hb b hc
      · rw [upd_other _ _ e] at hc; exact hc
    exact hs.sl a a' b ha ha' (q a e1) (q a' e2)
  · rcases hb' with g | g | ⟨a, ha, g⟩ | ⟨a, k, g1, g2⟩ | ⟨c, a, k, g1, g2, g3⟩
    · exact .inl g
    · exact .inr (.inl g)
    · refine .inr (.inr (.inl ⟨a, ha, ?_⟩))
      have g' : (upd Y.sv t v a).ownBlock = some b := g
      by_cases e : a = t
      · subst e; rw [upd_same] at g'; exact hb b g'
      · rw [upd_other _ _ e] at g'; exact g'
    · exact .inr (.inr (.inr (.inl ⟨a, k, hl _ _ g1, g2⟩)))
    · exact .inr (.inr (.inr (.inr ⟨c, a, k, g1, hl _ _ g2, g3⟩)))

end Go.Proofs.Ytdabcflpcklfiaa
