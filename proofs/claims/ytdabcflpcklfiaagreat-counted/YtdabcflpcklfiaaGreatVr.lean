import Derived.Test.YtdabcflpcklfiaaGreatVm
import Derived.Test.YtdabcflpcklfiaaGreatVt
import Derived.Test.YtdabcflpcklfiaaGreatRc
/- What a tick of the law writes. -/
namespace Go.Proofs.YtdabcflpcklfiaaGreat
open Go.RowKit Cad

/-- One number of a run is written. -/
theorem WAt.setOne {w : World} {B n kb : Nat} {tv pv : Value} {u : Wt} {dn : Nat → Nat} {Y : WL} (h : WAt w B n kb tv pv u dn Y) (hs : WSep n u dn Y) {t i : Nat} {x : Wr} (ht : t < n) (hx : (u.runs t)[i]? = some x) (q : Nat) (v : Value) (x' : Wr) (Vn : Nat → Value)
    (hc : ∀ p, p < 8 → rcell t x' Vn p = if p = q then v else rcell t x (fun c => Y.V c t (dn t + i)) p) (hi : ∀ c, c < 3 → SL 3 w B (Vn c) (ints (lst x' c))) (hn : ∀ c, c < 3 → ∀ b, (Vn c).ownBlock = some b → (Y.V c t (dn t + i)).ownBlock = some b) :
    WMove B n kb tv pv u (setR u t i x') dn dn Y (setY Y t (dn t + i) Vn) w (w.setCell ⟨Y.jb t (dn t + i), q, none⟩ v) := by
  have hj := h.jrow t ht i x hx
  exact h.putRun hs ht hx ((Fr.refl _ _).setCell (.inl (.inl rfl)) _) ((hj.set q v).congr (fun p hp => (hc p hp).symm)) (fun c hc => (hi c hc).setJ hj) hn

/-- The same where the lists stay. -/
theorem WAt.setNum {w : World} {B n kb : Nat} {tv pv : Value} {u : Wt} {dn : Nat → Nat} {Y : WL} (h : WAt w B n kb tv pv u dn Y) (hs : WSep n u dn Y) {t i : Nat} {x : Wr} (ht : t < n) (hx : (u.runs t)[i]? = some x) (q : Nat) (v : Value) (x' : Wr)
    (hc : ∀ p, p < 8 → rcell t x' (fun c => Y.V c t (dn t + i)) p = if p = q then v else rcell t x (fun c => Y.V c t (dn t + i)) p) (hl : ∀ c, lst x' c = lst x c) :
    WMove B n kb tv pv u (setR u t i x') dn dn Y (setY Y t (dn t + i) (fun c => Y.V c t (dn t + i))) w (w.setCell ⟨Y.jb t (dn t + i), q, none⟩ v) :=
  h.setOne hs ht hx q v x' _ hc (fun c hc => by rw [hl]; exact h.irow t ht i x hx c hc) (fun _ _ _ hb => hb)

/-- The step is written. -/
theorem WAt.setStep {w : World} {B n kb : Nat} {tv pv : Value} {u : Wt} {dn : Nat → Nat} {Y : WL} (h : WAt w B n kb tv pv u dn Y) (hs : WSep n u dn Y) {t i : Nat} {x : Wr} (ht : t < n) (hx : (u.runs t)[i]? = some x) (s : Nat) :
    WMove B n kb tv pv u (setR u t i { x with step := s }) dn dn Y (setY Y t (dn t + i) (fun c => Y.V c t (dn t + i))) w (w.setCell ⟨Y.jb t (dn t + i), 3, none⟩ (.int .i64 (s : Int))) := by
  refine h.setNum hs ht hx 3 _ { x with step := s } (fun p hp => ?_) (fun c => rfl)
  match p, hp with
  | 0, _ => rfl
  | 1, _ => rfl
  | 2, _ => rfl
  | 3, _ => rfl
  | 4, _ => rfl
  | 5, _ => rfl
  | 6, _ => rfl
  | 7, _ => rfl

/-- When it is ready is written. -/
theorem WAt.setReady {w : World} {B n kb : Nat} {tv pv : Value} {u : Wt} {dn : Nat → Nat} {Y : WL} (h : WAt w B n kb tv pv u dn Y) (hs : WSep n u dn Y) {t i : Nat} {x : Wr} (ht : t < n) (hx : (u.runs t)[i]? = some x) (s : Int) :
    WMove B n kb tv pv u (setR u t i { x with ready := s }) dn dn Y (setY Y t (dn t + i) (fun c => Y.V c t (dn t + i))) w (w.setCell ⟨Y.jb t (dn t + i), 1, none⟩ (.int .i64 s)) := by
  refine h.setNum hs ht hx 1 _ { x with ready := s } (fun p hp => ?_) (fun c => rfl)
  match p, hp with
  | 0, _ => rfl
  | 1, _ => rfl
  | 2, _ => rfl
  | 3, _ => rfl
  | 4, _ => rfl
  | 5, _ => rfl
  | 6, _ => rfl
  | 7, _ => rfl

/-- One list of a run is cut: what it is cut to lies in its block. -/
theorem WAt.setLeft {w : World} {B n kb : Nat} {tv pv : Value} {u : Wt} {dn : Nat → Nat} {Y : WL} (h : WAt w B n kb tv pv u dn Y) (hs : WSep n u dn Y) {t i : Nat} {x : Wr} (ht : t < n) (hx : (u.runs t)[i]? = some x) {v : Value} {r : List Int} (hv : SL 3 w B v (ints r)) (hb : ∀ b, v.ownBlock = some b → (Y.V 0 t (dn t + i)).ownBlock = some b) :
    WMove B n kb tv pv u (setR u t i { x with left := r }) dn dn Y (setY Y t (dn t + i) (fun c => if c = 0 then v else Y.V c t (dn t + i))) w (w.setCell ⟨Y.jb t (dn t + i), 2, none⟩ v) := by
  refine h.setOne hs ht hx 2 _ { x with left := r } _ (fun p hp => ?_) (fun c hc => ?_) (fun c hc b hb' => ?_)
  · match p, hp with
    | 0, _ => rfl
    | 1, _ => rfl
    | 2, _ => rfl
    | 3, _ => rfl
    | 4, _ => rfl
    | 5, _ => rfl
    | 6, _ => rfl
    | 7, _ => rfl
  · match c, hc with
    | 0, _ => exact hv
    | 1, _ => exact h.irow t ht i x hx 1 (by omega)
    | 2, _ => exact h.irow t ht i x hx 2 (by omega)
  · match c, hc, hb' with
    | 0, _, hb' => exact hb b hb'
    | 1, _, hb' => exact hb'
    | 2, _, hb' => exact hb'

theorem WAt.setHeld {w : World} {B n kb : Nat} {tv pv : Value} {u : Wt} {dn : Nat → Nat} {Y : WL} (h : WAt w B n kb tv pv u dn Y) (hs : WSep n u dn Y) {t i : Nat} {x : Wr} (ht : t < n) (hx : (u.runs t)[i]? = some x) {v : Value} {r : List Int} (hv : SL 3 w B v (ints r)) (hb : ∀ b, v.ownBlock = some b → (Y.V 1 t (dn t + i)).ownBlock = some b) :
    WMove B n kb tv pv u (setR u t i { x with held := r }) dn dn Y (setY Y t (dn t + i) (fun c => if c = 1 then v else Y.V c t (dn t + i))) w (w.setCell ⟨Y.jb t (dn t + i), 4, none⟩ v) := by
  refine h.setOne hs ht hx 4 _ { x with held := r } _ (fun p hp => ?_) (fun c hc => ?_) (fun c hc b hb' => ?_)
  · match p, hp with
    | 0, _ => rfl
    | 1, _ => rfl
    | 2, _ => rfl
    | 3, _ => rfl
    | 4, _ => rfl
    | 5, _ => rfl
    | 6, _ => rfl
    | 7, _ => rfl
  · match c, hc with
    | 0, _ => exact h.irow t ht i x hx 0 (by omega)
    | 1, _ => exact hv
    | 2, _ => exact h.irow t ht i x hx 2 (by omega)
  · match c, hc, hb' with
    | 0, _, hb' => exact hb'
    | 1, _, hb' => exact hb b hb'
    | 2, _, hb' => exact hb'

theorem WAt.setSince {w : World} {B n kb : Nat} {tv pv : Value} {u : Wt} {dn : Nat → Nat} {Y : WL} (h : WAt w B n kb tv pv u dn Y) (hs : WSep n u dn Y) {t i : Nat} {x : Wr} (ht : t < n) (hx : (u.runs t)[i]? = some x) {v : Value} {r : List Int} (hv : SL 3 w B v (ints r)) (hb : ∀ b, v.ownBlock = some b → (Y.V 2 t (dn t + i)).ownBlock = some b) :
    WMove B n kb tv pv u (setR u t i { x with since := r }) dn dn Y (setY Y t (dn t + i) (fun c => if c = 2 then v else Y.V c t (dn t + i))) w (w.setCell ⟨Y.jb t (dn t + i), 5, none⟩ v) := by
  refine h.setOne hs ht hx 5 _ { x with since := r } _ (fun p hp => ?_) (fun c hc => ?_) (fun c hc b hb' => ?_)
  · match p, hp with
    | 0, _ => rfl
    | 1, _ => rfl
    | 2, _ => rfl
    | 3, _ => rfl
    | 4, _ => rfl
    | 5, _ => rfl
    | 6, _ => rfl
    | 7, _ => rfl
  · match c, hc with
    | 0, _ => exact h.irow t ht i x hx 0 (by omega)
    | 1, _ => exact h.irow t ht i x hx 1 (by omega)
    | 2, _ => exact hv
  · match c, hc, hb' with
    | 0, _, hb' => exact hb'
    | 1, _, hb' => exact hb'
    | 2, _, hb' => exact hb b hb'

/-- One number of what is left is written. -/
theorem WAt.setIn {w : World} {B n kb : Nat} {tv pv : Value} {u : Wt} {dn : Nat → Nat} {Y : WL} (h : WAt w B n kb tv pv u dn Y) (hs : WSep n u dn Y) {t i : Nat} {x : Wr} (ht : t < n) (hx : (u.runs t)[i]? = some x) {g off k cap : Nat} (hV : Y.V 0 t (dn t + i) = .slice (some ⟨g, off, none⟩) k cap) (a : Int) :
    WMove B n kb tv pv u (setR u t i { x with left := x.left.set 0 a }) dn dn Y (setY Y t (dn t + i) (fun c => Y.V c t (dn t + i))) w (w.setCell ⟨g, off, none⟩ (.int .i64 a)) := by
  have hl := wlive_get (n := n) (dn := dn) ht hx
  have hj := h.jrow t ht i x hx
  have h0 := h.irow t ht i x hx 0 (by omega)
  have e0 : lst x 0 = x.left := rfl
  rw [hV, e0] at h0
  have hg : (Y.V 0 t (dn t + i)).ownBlock = some g := by rw [hV]; rfl
  have hne : ∀ c, c < 3 → c ≠ 0 → ∀ b, (Y.V c t (dn t + i)).ownBlock = some b → b ≠ g := fun c hc hc0 b hb e => by
    subst e
    exact hc0 (hs.iv c t _ 0 t _ b hc (by omega) hl hl hb hg).1
  refine h.putRun hs ht hx (Fr.setCell (Fr.refl _ _) (.inl (.inr ⟨0, by omega, hg⟩)) _) ?_ (fun c hc => ?_) (fun _ _ _ hb => hb)
  · refine World.rowIs.of_block (w := w) ?_ (Deep.blk_setCell_other _ _ _ _ (fun e => ?_))
    · exact hj.congr (fun p hp => by
        match p, hp with
        | 0, _ => rfl
        | 1, _ => rfl
        | 2, _ => rfl
        | 3, _ => rfl
        | 4, _ => rfl
        | 5, _ => rfl
        | 6, _ => rfl
        | 7, _ => rfl)
    · refine h0.ne hj (by decide) ?_
      rw [show Y.jb t (dn t + i) = g from e]
      rfl
  · match c, hc with
    | 0, _ =>
      have g1 := h0.set 0 (.int .i64 a)
      rw [Nat.add_zero] at g1
      show SL 3 _ B (Y.V 0 t (dn t + i)) (ints (x.left.set 0 a))
      rw [hV]
      have e1 : ints (x.left.set 0 a) = (ints x.left).set 0 (.int .i64 a) := by
        unfold ints
        rw [List.map_set]
      rw [e1]
      exact g1
    | 1, hc => exact (h.irow t ht i x hx 1 hc).of_block (fun b hb => Deep.blk_setCell_other _ _ _ _ (fun e => hne 1 hc (by decide) b hb e))
    | 2, hc => exact (h.irow t ht i x hx 2 hc).of_block (fun b hb => Deep.blk_setCell_other _ _ _ _ (fun e => hne 2 hc (by decide) b hb e))

/-- Only what the tasks have counts. -/
theorem WMove.congr {B n kb : Nat} {tv pv : Value} {u u1 u2 : Wt} {dn dn' : Nat → Nat} {Y Y' : WL} {w w' : World} (h : WMove B n kb tv pv u u1 dn dn' Y Y' w w') (hr : ∀ a, a < n → u2.runs a = u1.runs a) (h1 : u2.now = u1.now) (h2 : u2.idle = u1.idle) (h3 : u2.given = u1.given) (h4 : u2.asked = u1.asked) : WMove B n kb tv pv u u2 dn dn' Y Y' w w' := by
  have hl : ∀ t k, wlive n u2 dn' t k ↔ wlive n u1 dn' t k := fun t k => by
    constructor
    · rintro ⟨a, b, c⟩; rw [hr t a] at c; exact ⟨a, b, c⟩
    · rintro ⟨a, b, c⟩; refine ⟨a, b, ?_⟩; rw [hr t a]; exact c
  have hw : wcell kb n tv pv Y'.rb u2 = wcell kb n tv pv Y'.rb u1 := by
    funext q
    unfold wcell
    rw [h1, h2, h3, h4]
  obtain ⟨ha, hs, hf, ht, hb⟩ := h
  refine ⟨⟨by rw [hw]; exact ha.wrow, ha.rrow, fun t ht => by rw [hr t ht]; exact ha.srow t ht, fun t ht i x hx => ha.jrow t ht i x (by rw [← hr t ht]; exact hx), fun t ht i x hx => ha.irow t ht i x (by rw [← hr t ht]; exact hx), ha.lo.1, ha.lo.2.1, fun t ht i hi => ha.lo.2.2 t ht i (by rw [← hr t ht]; exact hi)⟩, ⟨hs.sl, fun t k t' k' g1 g2 => hs.jb t k t' k' ((hl _ _).1 g1) ((hl _ _).1 g2), fun c t k c' t' k' b hc hc' g1 g2 => hs.iv c t k c' t' k' b hc hc' ((hl _ _).1 g1) ((hl _ _).1 g2)⟩, hf, fun b hb => ht b ?_, hb⟩
  rcases hb with g | g | g | ⟨t, k, g1, g2⟩ | ⟨c, t, k, g1, g2, g3⟩
  · exact .inl g
  · exact .inr (.inl g)
  · exact .inr (.inr (.inl g))
  · exact .inr (.inr (.inr (.inl ⟨t, k, (hl _ _).1 g1, g2⟩)))
  · exact .inr (.inr (.inr (.inr ⟨c, t, k, g1, (hl _ _).1 g2, g3⟩)))

/-- A number of the watch's own is written. -/
theorem WAt.moveW {w : World} {B n kb : Nat} {tv pv : Value} {u : Wt} {dn : Nat → Nat} {Y : WL} (h : WAt w B n kb tv pv u dn Y) (hs : WSep n u dn Y) {q : Nat} {x : Int} {u' : Wt} (hr : u'.runs = u.runs) (hc : ∀ p, p < 8 → wcell kb n tv pv Y.rb u' p = if p = q then .int .i64 x else wcell kb n tv pv Y.rb u p) :
    WMove B n kb tv pv u u' dn dn Y Y w (w.setCell ⟨Y.wb, q, none⟩ (.int .i64 x)) := by
  have hl : ∀ t k, wlive n u' dn t k ↔ wlive n u dn t k := fun t k => by unfold wlive; rw [hr]
  refine ⟨h.setW hr hc, ⟨hs.sl, fun t k t' k' g1 g2 => hs.jb t k t' k' ((hl _ _).1 g1) ((hl _ _).1 g2), fun c t k c' t' k' b hc hc' g1 g2 => hs.iv c t k c' t' k' b hc hc' ((hl _ _).1 g1) ((hl _ _).1 g2)⟩, (Fr.refl _ _).setCell (.inl (.inl rfl)) _, fun b hb => .inl ?_, rfl⟩
  rcases hb with g | g | g | ⟨t, k, g1, g2⟩ | ⟨c, t, k, g1, g2, g3⟩
  · exact .inl g
  · exact .inr (.inl g)
  · exact .inr (.inr (.inl g))
  · exact .inr (.inr (.inr (.inl ⟨t, k, (hl _ _).1 g1, g2⟩)))
  · exact .inr (.inr (.inr (.inr ⟨c, t, k, g1, (hl _ _).1 g2, g3⟩)))

theorem WAt.moveNow {w : World} {B n kb : Nat} {tv pv : Value} {u : Wt} {dn : Nat → Nat} {Y : WL} (h : WAt w B n kb tv pv u dn Y) (hs : WSep n u dn Y) (x : Int) : WMove B n kb tv pv u { u with now := x } dn dn Y Y w (w.setCell ⟨Y.wb, 4, none⟩ (.int .i64 x)) := by
  refine h.moveW hs rfl (fun p hp => ?_)
  match p, hp with
  | 0, _ => rfl
  | 1, _ => rfl
  | 2, _ => rfl
  | 3, _ => rfl
  | 4, _ => rfl
  | 5, _ => rfl
  | 6, _ => rfl
  | 7, _ => rfl

theorem WAt.moveIdle {w : World} {B n kb : Nat} {tv pv : Value} {u : Wt} {dn : Nat → Nat} {Y : WL} (h : WAt w B n kb tv pv u dn Y) (hs : WSep n u dn Y) (x : Int) : WMove B n kb tv pv u { u with idle := x } dn dn Y Y w (w.setCell ⟨Y.wb, 5, none⟩ (.int .i64 x)) := by
  refine h.moveW hs rfl (fun p hp => ?_)
  match p, hp with
  | 0, _ => rfl
  | 1, _ => rfl
  | 2, _ => rfl
  | 3, _ => rfl
  | 4, _ => rfl
  | 5, _ => rfl
  | 6, _ => rfl
  | 7, _ => rfl

theorem WAt.moveGiven {w : World} {B n kb : Nat} {tv pv : Value} {u : Wt} {dn : Nat → Nat} {Y : WL} (h : WAt w B n kb tv pv u dn Y) (hs : WSep n u dn Y) (x : Int) : WMove B n kb tv pv u { u with given := x } dn dn Y Y w (w.setCell ⟨Y.wb, 6, none⟩ (.int .i64 x)) := by
  refine h.moveW hs rfl (fun p hp => ?_)
  match p, hp with
  | 0, _ => rfl
  | 1, _ => rfl
  | 2, _ => rfl
  | 3, _ => rfl
  | 4, _ => rfl
  | 5, _ => rfl
  | 6, _ => rfl
  | 7, _ => rfl

/-- The first run of a task is dropped. -/
theorem WAt.pop {w : World} {B n kb : Nat} {tv pv : Value} {u : Wt} {dn : Nat → Nat} {Y : WL} (h : WAt w B n kb tv pv u dn Y) (hs : WSep n u dn Y) {t : Nat} {x : Wr} {l : List Wr} (ht : t < n) (hx : u.runs t = x :: l) {v : Value} (hv : SL 78 w B v (ptrs Y t (dn t + 1) l.length)) (hb : ∀ b, v.ownBlock = some b → (Y.sv t).ownBlock = some b) :
    WMove B n kb tv pv u { u with runs := upd u.runs t l } dn (upd dn t (dn t + 1)) Y { Y with sv := upd Y.sv t v } w (w.setCell ⟨Y.rb, t, none⟩ v) := by
  have hl : ∀ a k, wlive n { u with runs := upd u.runs t l } (upd dn t (dn t + 1)) a k → wlive n u dn a k := by
    rintro a k ⟨g1, g2, g3⟩
    refine ⟨g1, ?_⟩
    by_cases e : a = t
    · subst e
      simp only [upd_same] at g2 g3
      rw [hx]
      simp only [List.length_cons]
      omega
    · simp only [upd_other _ _ e] at g2 g3
      exact ⟨g2, g3⟩
  have hget : ∀ a, a < n → ∀ (i : Nat) (y : Wr), (({ u with runs := upd u.runs t l } : Wt).runs a)[i]? = some y → ∃ i', (u.runs a)[i']? = some y ∧ upd dn t (dn t + 1) a + i = dn a + i' := by
    intro a ha i y hy
    by_cases e : a = t
    · subst e
      simp only [upd_same] at hy
      refine ⟨i + 1, by rw [hx]; simpa using hy, ?_⟩
      rw [upd_same]; omega
    · simp only [upd_other _ _ e] at hy
      exact ⟨i, hy, by rw [upd_other _ _ e]⟩
  have hne : ∀ b T N F, w.rowIs b T N F → T ≠ 81 → b ≠ Y.rb := fun b T N F hb hT => row_ne hb h.rrow hT
  have hsl : ∀ e v' l', SL e w B v' l' → e ≠ 81 → SL e (w.setCell ⟨Y.rb, t, none⟩ v) B v' l' := fun e v' l' hv' he => hv'.of_block (fun b hb => Deep.blk_setCell_other _ _ _ _ (fun e' => hv'.ne h.rrow (fun e => he e.symm) (by rw [← (show b = Y.rb from e')]; exact hb)))
  refine ⟨⟨?_, ?_, fun a ha => ?_, fun a ha i y hy => ?_, fun a ha i y hy c hc => ?_, h.lo.1, h.lo.2.1, fun a ha i hi => ?_⟩, ⟨fun a a' b ha ha' e1 e2 => ?_, fun a k a' k' g1 g2 => hs.jb a k a' k' (hl _ _ g1) (hl _ _ g2), fun c a k c' a' k' b hc hc' g1 g2 => hs.iv c a k c' a' k' b hc hc' (hl _ _ g1) (hl _ _ g2)⟩, (Fr.refl _ _).setCell (.inl (.inr (.inl rfl))) _, fun b hb' => .inl ?_, rfl⟩
  · exact h.wrow.setOther (by simpa using hne _ _ _ _ h.wrow (by decide)) _
  · refine (h.rrow.set t v).congr (fun p hp => ?_)
    show (if p = t then v else Y.sv p) = upd Y.sv t v p
    rfl
  · by_cases e : a = t
    · subst e
      show SL 78 _ B (upd Y.sv a v a) (ptrs Y a (upd dn a (dn a + 1) a) (upd u.runs a l a).length)
      rw [upd_same, upd_same, upd_same]
      exact hsl 78 v _ hv (by decide)
    · show SL 78 _ B (upd Y.sv t v a) (ptrs Y a (upd dn t (dn t + 1) a) (upd u.runs t l a).length)
      rw [upd_other _ _ e, upd_other _ _ e, upd_other _ _ e]
      exact hsl 78 _ _ (h.srow a ha) (by decide)
  · obtain ⟨i', hy', e⟩ := hget a ha i y hy
    have hj := h.jrow a ha i' y hy'
    rw [← e] at hj
    exact hj.setOther (by simpa using hne _ _ _ _ hj (by decide)) _
  · obtain ⟨i', hy', e⟩ := hget a ha i y hy
    have hj := h.irow a ha i' y hy' c hc
    rw [← e] at hj
    exact hsl 3 _ _ hj (by decide)
  · obtain ⟨i', hy', e⟩ := hget a ha i _ (List.getElem?_eq_getElem hi)
    show B ≤ Y.jb a (upd dn t (dn t + 1) a + i)
    rw [e]
    exact h.lo.2.2 a ha i' (List.getElem?_eq_some_iff.1 hy').1
  · have q : ∀ c, (upd Y.sv t v c).ownBlock = some b → (Y.sv c).ownBlock = some b := fun c hc => by
      by_cases e : c = t
      · subst e; rw [upd_same] at hc; exact hb b hc
      · rw [upd_other _ _ e] at hc; exact hc
    exact hs.sl a a' b ha ha' (q a e1) (q a' e2)
  · rcases hb' with g | g | ⟨a, ha, g⟩ | ⟨a, k, g1, g2⟩ | ⟨c, a, k, g1, g2, g3⟩
    · exact .inl g
    · exact .inr (.inl g)
    · refine .inr (.inr (.inl ⟨a, ha, ?_⟩))
      have g' : (upd Y.sv t v a).ownBlock = some b := g
      by_cases e : a = t
      · subst e; rw [upd_same] at g'; exact hb b g'
      · rw [upd_other _ _ e] at g'; exact g'
    · exact .inr (.inr (.inr (.inl ⟨a, k, hl _ _ g1, g2⟩)))
    · exact .inr (.inr (.inr (.inr ⟨c, a, k, g1, hl _ _ g2, g3⟩)))

end Go.Proofs.YtdabcflpcklfiaaGreat

/- The law's watch beside the kernel; what its tick needs. -/
namespace Go.Proofs.YtdabcflpcklfiaaGreat
open Go.RowKit Cad

/-- The law's watch and its kernel, side by side. -/
def WSt (w0 w : World) (n kb wb : Nat) (tv pv : Value) (S : Sy) (m : Mc) : Prop :=
  ∃ u dn Y, WAt w w0.heap.size n kb tv pv u dn Y ∧ WSep n u dn Y ∧ Y.wb = wb ∧ KSt (fun q => q < w0.heap.size ∨ footW n u dn Y q) w kb S m ∧ WI S m u ∧ LkInv S m ∧ Below w0.heap.size w0 w ∧ CN S m u

/-- The kernel has moved: the watch stands. -/
theorem WAt.kernel {w0 w w' : World} {n kb : Nat} {tv pv : Value} {u : Wt} {dn : Nat → Nat} {Y : WL} (h : WAt w w0.heap.size n kb tv pv u dn Y) (hb : Below w0.heap.size w0 w) (hf : Fr (fun q => ¬ (q < w0.heap.size ∨ footW n u dn Y q)) w w') : WAt w' w0.heap.size n kb tv pv u dn Y ∧ Below w0.heap.size w0 w' :=
  ⟨h.same (fun b hb => hf.block b (h.foot_lt hb).2 (fun e => e (.inr hb))), hb.trans (hf.below hb.size (fun _ hi => Nat.le_of_not_lt (fun e => hi (.inl e))))⟩

theorem Cad.WI.eight {S : Sy} {m : Mc} {u : Wt} (ho : Ok S m) (h : WI S m u) : ∀ t, t < S.n → (u.runs t).length ≤ 8 := fun t ht => by rw [h.len t ht]; exact ho.few t ht

theorem st_len {K N : Nat → Int} : ∀ (p : Nat) {h : List Int}, stTo K N p = some h → h.length ≤ p
  | 0, h, e => by cases e; simp
  | p + 1, h, e => by
    have e' : (stTo K N p).bind _ = some h := e
    cases hq : stTo K N p with
    | none => rw [hq] at e'; cases e'
    | some g =>
      rw [hq] at e'
      have ih := st_len p hq
      have e2 : Cad.stepF g (prevLock K p) (K p) (N p) = some h := e'
      unfold Cad.stepF at e2
      split at e2
      · split at e2
        · cases e2; omega
        · cases e2
      · split at e2
        · split at e2
          · cases e2; rw [List.length_append]; simp; omega
          · cases e2
        · split at e2
          · split at e2
            · cases e2; rw [List.length_dropLast]; omega
            · cases e2
          · cases e2

theorem st_mem {K N : Nat → Int} {r : Int} : ∀ (p : Nat) {h : List Int}, stTo K N p = some h → r ∈ h → ∃ k, k < p ∧ K k = 2 ∧ N k = r
  | 0, h, e, hr => by cases e; simp at hr
  | p + 1, h, e, hr => by
    have e' : (stTo K N p).bind _ = some h := e
    cases hq : stTo K N p with
    | none => rw [hq] at e'; cases e'
    | some g =>
      rw [hq] at e'
      have ih := st_mem (r := r) p hq
      have old : r ∈ g → ∃ k, k < p + 1 ∧ K k = 2 ∧ N k = r := fun hm => by
        obtain ⟨k, h1, h2, h3⟩ := ih hm
        exact ⟨k, by omega, h2, h3⟩
      have e2 : Cad.stepF g (prevLock K p) (K p) (N p) = some h := e'
      unfold Cad.stepF at e2
      split at e2
      · split at e2
        · cases e2; exact old hr
        · cases e2
      · split at e2
        · rename_i hk2
          split at e2
          · cases e2
            rcases List.mem_append.1 hr with g1 | g1
            · exact old g1
            · exact ⟨p, by omega, hk2, (List.mem_singleton.1 g1).symm⟩
          · cases e2
        · split at e2
          · split at e2
            · cases e2; exact old (List.dropLast_subset _ hr)
            · cases e2
          · cases e2

/-- No run holds more than sixteen. -/
theorem Cad.WI.held16 {S : Sy} {m : Mc} {u : Wt} (ho : Ok S m) (h : WI S m u) : ∀ t, t < S.n → ∀ x ∈ u.runs t, x.held.length ≤ 16 := by
  intro t ht x hx
  obtain ⟨i, hi, e⟩ := List.getElem_of_mem hx
  have hl := h.len t ht
  obtain ⟨j, hj⟩ : ∃ j, (m.q t)[i]? = some j := ⟨_, List.getElem?_eq_getElem (by omega)⟩
  have hjw := h.jw t ht i x j (by rw [List.getElem?_eq_getElem hi, e]) hj
  have h1 := st_len _ hjw.held
  have h2 := (ho.job t ht j (List.mem_of_getElem? hj)).1.lt
  have h3 := (ho.len t ht).2
  omega

theorem Cad.WI.congr {S : Sy} {m : Mc} {u u' : Wt} (h : WI S m u) (h1 : u'.now = u.now) (h2 : u'.idle = u.idle) (hr : ∀ a, a < S.n → u'.runs a = u.runs a) : WI S m u' where
  now := h1.trans h.now
  idle := h2.trans h.idle
  len t ht := by rw [hr t ht]; exact h.len t ht
  jw t ht i x j hx hq := h.jw t ht i x j (by rw [← hr t ht]; exact hx) hq
  hd t x l j l' ht hx hq := h.hd t x l j l' ht (by rw [← hr t ht]; exact hx) hq
  tl t x l ht hx := h.tl t x l ht (by rw [← hr t ht]; exact hx)
  old t x l ht hx := h.old t x l ht (by rw [← hr t ht]; exact hx)
  byr t y l ht hx := h.byr t y l ht (by rw [← hr t ht]; exact hx)
  i1 a x l t y l' ha ht hz hx hy := h.i1 a x l t y l' ha ht hz (by rw [← hr a ha]; exact hx) (by rw [← hr t ht]; exact hy)
  i2 t y l a x l' ht ha hz hy hb hx := h.i2 t y l a x l' ht ha hz (by rw [← hr t ht]; exact hy) hb (by rw [← hr a ha]; exact hx)

theorem none_ready {S : Sy} {m : Mc} (ho : Ok S m) (hc : (chTo S m S.n).1 = -1) {a : Nat} (ha : a < S.n) : readyB m a = false := by
  cases hr : readyB m a with
  | false => rfl
  | true =>
    have h1 := chTo_max S m S.n a ha hr
    have h2 := (rank_range ho ha m.hold).1
    rcases chTo_range S m S.n with ⟨_, h3⟩ | ⟨t, _, h3, _⟩
    · omega
    · omega

theorem fst_none {S : Sy} {m : Mc} {u : Wt} {dn : Nat → Nat} {Y : WL} (h : WI S m u) {a : Nat} (ha : a < S.n) (hr : readyB m a = false) : fstP u dn Y a = none := by
  unfold fstP
  cases hq : u.runs a with
  | nil => rfl
  | cons x l =>
    by_cases g : x.ready ≤ u.now
    · have := (h.ready ha).2 ⟨x, l, hq, g⟩
      rw [hr] at this; cases this
    · exact if_neg g

theorem fst_some {u : Wt} {dn : Nat → Nat} {Y : WL} {a : Nat} {x : Wr} {l : List Wr} (hx : u.runs a = x :: l) (hr : x.ready ≤ u.now) : fstP u dn Y a = some ⟨Y.jb a (dn a), 0, none⟩ := by
  unfold fstP
  rw [hx]
  exact if_pos hr

theorem SL.capOf {e : Nat} {w : World} {B g o k cp : Nat} {l : List Value} (h : SL e w B (.slice (some ⟨g, o, none⟩) k cp) l) : l.length ≤ cp := by
  rcases h with ⟨h, _⟩ | ⟨_, _, _, _, _, h, _, _, _, h4, _⟩
  · cases h
  · cases h
    exact h4

theorem bel_drew (w : World) : Below w.heap.size w w.drew := ⟨rfl, rfl, rfl, Nat.le_refl _, fun _ _ => rfl⟩

theorem SL.take {w : World} {B g o k cp : Nat} {l : List Int} (h : SL 3 w B (.slice (some ⟨g, o, none⟩) k cp) (ints l)) {i : Nat} (hi : i ≤ l.length) : SL 3 w B (.slice (some ⟨g, o, none⟩) i cp) (ints (l.take i)) := by
  have g1 := h.init i
  rw [List.length_take, ints_len, Nat.min_eq_left hi] at g1
  have e : ints (l.take i) = (ints l).take i := by
    unfold ints
    rw [List.map_take]
  rw [e]
  exact g1

/-- One Unlock. -/
theorem WAt.cutOne {w : World} {B n kb : Nat} {tv pv : Value} {u : Wt} {dn : Nat → Nat} {Y : WL} (h : WAt w B n kb tv pv u dn Y) (hs : WSep n u dn Y) {t : Nat} {x : Wr} (ht : t < n) (hx : (u.runs t)[0]? = some x) {g1 o1 k1 c1 g2 o2 k2 c2 l1 s : Nat} (hV1 : Y.V 1 t (dn t + 0) = .slice (some ⟨g1, o1, none⟩) k1 c1) (hV2 : Y.V 2 t (dn t + 0) = .slice (some ⟨g2, o2, none⟩) k2 c2) (hl1 : l1 ≤ x.held.length) (hl2 : l1 ≤ x.since.length) :
    WMove B n kb tv pv u (setR u t 0 { x with step := s, held := x.held.take l1, since := x.since.take l1 }) dn dn Y (setY Y t (dn t + 0) (fun c => if c = 0 then Y.V 0 t (dn t + 0) else if c = 1 then .slice (some ⟨g1, o1, none⟩) l1 c1 else .slice (some ⟨g2, o2, none⟩) l1 c2)) w (((w.setCell ⟨Y.jb t (dn t + 0), 4, none⟩ (.slice (some ⟨g1, o1, none⟩) l1 c1)).setCell ⟨Y.jb t (dn t + 0), 5, none⟩ (.slice (some ⟨g2, o2, none⟩) l1 c2)).setCell ⟨Y.jb t (dn t + 0), 3, none⟩ (.int .i64 (s : Int))) := by
  have hj := h.jrow t ht 0 x hx
  have hj1 := hj.set 4 (.slice (some ⟨g1, o1, none⟩) l1 c1)
  have hj2 := hj1.set 5 (.slice (some ⟨g2, o2, none⟩) l1 c2)
  have hj3 := hj2.set 3 (.int .i64 (s : Int))
  have i0 := h.irow t ht 0 x hx 0 (by omega)
  have i1 := h.irow t ht 0 x hx 1 (by omega)
  have i2 := h.irow t ht 0 x hx 2 (by omega)
  rw [hV1] at i1
  rw [hV2] at i2
  have i1' : SL 3 w B (.slice (some ⟨g1, o1, none⟩) l1 c1) (ints (x.held.take l1)) := SL.take (l := x.held) i1 hl1
  have i2' : SL 3 w B (.slice (some ⟨g2, o2, none⟩) l1 c2) (ints (x.since.take l1)) := SL.take (l := x.since) i2 hl2
  refine h.putRun hs ht hx ((((Fr.refl _ _).setCell (.inl (.inl rfl)) _).setCell (.inl (.inl rfl)) _).setCell (.inl (.inl rfl)) _) (hj3.congr ?_) (fun c hc => ?_) (fun c hc b hb => ?_)
  · intro p hp
    match p, hp with
    | 0, _ => rfl
    | 1, _ => rfl
    | 2, _ => rfl
    | 3, _ => rfl
    | 4, _ => rfl
    | 5, _ => rfl
    | 6, _ => rfl
    | 7, _ => rfl
  · match c, hc with
    | 0, _ => exact ((i0.setJ hj).setJ hj1).setJ hj2
    | 1, _ => exact ((i1'.setJ hj).setJ hj1).setJ hj2
    | 2, _ => exact ((i2'.setJ hj).setJ hj1).setJ hj2
  · match c, hc, hb with
    | 0, _, hb => exact hb
    | 1, _, hb => rw [hV1]; exact hb
    | 2, _, hb => rw [hV2]; exact hb

/-- A run that has ended a Compute and d Unlocks behind it. -/
def cuts (xg : Wr) (r : List Int) (s d : Nat) : Wr := { xg with left := r, step := s + d, held := cutN xg.held d, since := cutN xg.since d }

theorem cuts_zero (xg : Wr) (r : List Int) (s : Nat) : cuts xg r s 0 = { xg with left := r, step := s } := by
  unfold cuts cutN
  simp

theorem cutN_succ (l : List Int) (d : Nat) : cutN l (d + 1) = (cutN l d).take ((cutN l d).length - 1) := by
  unfold cutN
  rw [List.take_take, List.length_take]
  congr 1
  omega

theorem cutN_len (l : List Int) (d : Nat) : (cutN l d).length = l.length - d := by
  unfold cutN
  rw [List.length_take]
  omega

end Go.Proofs.YtdabcflpcklfiaaGreat

/- A run is added to the law's watch. -/
namespace Go.Proofs.YtdabcflpcklfiaaGreat
open Go.RowKit Cad

theorem WAt.moveAsked {w : World} {B n kb : Nat} {tv pv : Value} {u : Wt} {dn : Nat → Nat} {Y : WL} (h : WAt w B n kb tv pv u dn Y) (hs : WSep n u dn Y) (x : Int) : WMove B n kb tv pv u { u with asked := x } dn dn Y Y w (w.setCell ⟨Y.wb, 7, none⟩ (.int .i64 x)) := by
  refine h.moveW hs rfl (fun p hp => ?_)
  match p, hp with
  | 0, _ => rfl
  | 1, _ => rfl
  | 2, _ => rfl
  | 3, _ => rfl
  | 4, _ => rfl
  | 5, _ => rfl
  | 6, _ => rfl
  | 7, _ => rfl

/-- The layout with one run more. -/
def addY (Y : WL) (t k : Nat) (v : Value) (jN : Nat) (Vn : Nat → Value) : WL :=
  { Y with sv := upd Y.sv t v, jb := fun a q => if a = t ∧ q = k then jN else Y.jb a q, V := fun c a q => if a = t ∧ q = k then Vn c else Y.V c a q }

/-- With one run more. -/
def addR (u : Wt) (t : Nat) (x : Wr) : Wt := { u with runs := upd u.runs t (u.runs t ++ [x]) }

theorem addR_get {u : Wt} {t : Nat} {x : Wr} {a i : Nat} {y : Wr} (h : ((addR u t x).runs a)[i]? = some y) : (a = t ∧ i = (u.runs t).length ∧ y = x) ∨ (u.runs a)[i]? = some y := by
  have h' : (upd u.runs t (u.runs t ++ [x]) a)[i]? = some y := h
  by_cases e : a = t
  · subst e
    rw [upd_same] at h'
    by_cases hi : i < (u.runs a).length
    · rw [List.getElem?_append_left hi] at h'
      exact .inr h'
    · rw [List.getElem?_append_right (by omega)] at h'
      cases hd : i - (u.runs a).length with
      | zero =>
        rw [hd] at h'
        simp at h'
        exact .inl ⟨rfl, by omega, h'.symm⟩
      | succ q => rw [hd] at h'; simp at h'
  · rw [upd_other _ _ e] at h'
    exact .inr h'

theorem addR_live {n : Nat} {u : Wt} {dn : Nat → Nat} {t : Nat} {x : Wr} {a k : Nat} (h : wlive n (addR u t x) dn a k) : (a = t ∧ k = dn t + (u.runs t).length) ∨ wlive n u dn a k := by
  obtain ⟨i, y, rfl, hy⟩ := get_wlive h
  rcases addR_get hy with ⟨rfl, rfl, _⟩ | h'
  · exact .inl ⟨rfl, rfl⟩
  · exact .inr (wlive_get h.1 h')

/-- One run more. -/
theorem WMove.push {ws w w' : World} {B n kb : Nat} {tv pv : Value} {us u : Wt} {dns dn : Nat → Nat} {Ys Y : WL} (hm : WMove B n kb tv pv us u dns dn Ys Y ws w) {t jN : Nat} {x : Wr} {v : Value} {Vn : Nat → Value} (ht : t < n)
    (hf : Fr (fun q => q = Y.rb ∨ (Y.sv t).ownBlock = some q) w w') (hrb : w'.rowIs Y.rb 81 n (upd Y.sv t v)) (hsl : SL 78 w' B v (ptrs Y t (dn t) (u.runs t).length ++ [.pointer (some ⟨jN, 0, none⟩)])) (hvb : ∀ b, v.ownBlock = some b → (Y.sv t).ownBlock = some b ∨ w.heap.size ≤ b)
    (hj : w'.rowIs jN 80 8 (rcell t x Vn)) (hjN : w.heap.size ≤ jN) (hi : ∀ c, c < 3 → SL 3 w' B (Vn c) (ints (lst x c))) (hin : ∀ c, c < 3 → ∀ b, (Vn c).ownBlock = some b → ws.heap.size ≤ b ∧ ¬ footW n u dn Y b) (hid : ∀ c c' b, c < 3 → c' < 3 → (Vn c).ownBlock = some b → (Vn c').ownBlock = some b → c = c') :
    WMove B n kb tv pv us (addR u t x) dns dn Ys (addY Y t (dn t + (u.runs t).length) v jN Vn) ws w' := by
  have h := hm.at'
  have hs := hm.sep
  have hws := hm.fr.size
  have hnl : ∀ a k, wlive n u dn a k → ¬ (a = t ∧ k = dn t + (u.runs t).length) := by
    rintro a k ⟨_, _, h3⟩ ⟨rfl, rfl⟩
    omega
  have hJo : ∀ a k, wlive n u dn a k → (addY Y t (dn t + (u.runs t).length) v jN Vn).jb a k = Y.jb a k := fun a k hl => if_neg (hnl a k hl)
  have hVo : ∀ c a k, wlive n u dn a k → (addY Y t (dn t + (u.runs t).length) v jN Vn).V c a k = Y.V c a k := fun c a k hl => if_neg (hnl a k hl)
  have hJs : (addY Y t (dn t + (u.runs t).length) v jN Vn).jb t (dn t + (u.runs t).length) = jN := if_pos ⟨rfl, rfl⟩
  have hVs : ∀ c, (addY Y t (dn t + (u.runs t).length) v jN Vn).V c t (dn t + (u.runs t).length) = Vn c := fun c => if_pos ⟨rfl, rfl⟩
  have hfX : ∀ b T N F, w.rowIs b T N F → T ≠ 81 → T ≠ 78 → ¬ (b = Y.rb ∨ (Y.sv t).ownBlock = some b) := by
    rintro b T N F hr h1 h2 (e | e)
    · exact row_ne hr h.rrow h1 e
    · exact (h.srow t ht).ne hr h2 e
  have hB : B ≤ w.heap.size := by
    have h1 := h.lo.1
    have h2 := h.wrow.lt
    omega
  have hjlt : ∀ a k, wlive n u dn a k → Y.jb a k < w.heap.size := fun a k hl => (h.foot_lt (.inr (.inr (.inr (.inl ⟨a, k, hl, rfl⟩))))).2
  have hslt : ∀ a b, a < n → (Y.sv a).ownBlock = some b → b < w.heap.size := fun a b ha e => (h.foot_lt (.inr (.inr (.inl ⟨a, ha, e⟩)))).2
  refine ⟨⟨?_, hrb, fun a ha => ?_, fun a ha i y hy => ?_, fun a ha i y hy c hc => ?_, h.lo.1, h.lo.2.1, fun a ha i hi' => ?_⟩, ⟨fun a a' b ha ha' e1 e2 => ?_, fun a k a' k' g1 g2 e => ?_, fun c a k c' a' k' b hc hc' g1 g2 e1 e2 => ?_⟩, ?_, fun b hb => ?_, hm.wb⟩
  · exact hf.row h.wrow (hfX _ _ _ _ h.wrow (by decide) (by decide))
  · show SL 78 w' B (upd Y.sv t v a) (ptrs (addY Y t (dn t + (u.runs t).length) v jN Vn) a (dn a) (upd u.runs t (u.runs t ++ [x]) a).length)
    by_cases e : a = t
    · subst e
      rw [upd_same, upd_same]
      have e2 : ptrs (addY Y a (dn a + (u.runs a).length) v jN Vn) a (dn a) (u.runs a ++ [x]).length = ptrs Y a (dn a) (u.runs a).length ++ [.pointer (some ⟨jN, 0, none⟩)] := by
        unfold ptrs
        rw [List.length_append, List.length_singleton, List.range_succ, List.map_append, List.map_singleton, hJs]
        congr 1
        refine List.map_congr_left (fun i hi' => ?_)
        have hi2 := List.mem_range.1 hi'
        rw [hJo a (dn a + i) ⟨ha, by omega, by omega⟩]
      rw [e2]
      exact hsl
    · rw [upd_other _ _ e, upd_other _ _ e]
      have e2 : ptrs (addY Y t (dn t + (u.runs t).length) v jN Vn) a (dn a) (u.runs a).length = ptrs Y a (dn a) (u.runs a).length := by
        unfold ptrs
        refine List.map_congr_left (fun i hi' => ?_)
        have hi2 := List.mem_range.1 hi'
        rw [hJo a (dn a + i) ⟨ha, by omega, by omega⟩]
      rw [e2]
      refine (h.srow a ha).of_block (fun b hb => hf.block b (hslt a b ha hb) (fun hc => ?_))
      rcases hc with hc | hc
      · rw [hc] at hb
        exact (h.srow a ha).ne h.rrow (by decide) hb
      · exact e (hs.sl a t b ha ht hb hc)
  · rcases addR_get hy with ⟨rfl, rfl, rfl⟩ | hy'
    · rw [hJs]
      have e : (fun c => (addY Y a (dn a + (u.runs a).length) v jN Vn).V c a (dn a + (u.runs a).length)) = Vn := funext hVs
      rw [e]
      exact hj
    · have hl := wlive_get (n := n) (dn := dn) ha hy'
      rw [hJo a _ hl]
      have e : (fun c => (addY Y t (dn t + (u.runs t).length) v jN Vn).V c a (dn a + i)) = (fun c => Y.V c a (dn a + i)) := funext (fun c => hVo c a _ hl)
      rw [e]
      have hr := h.jrow a ha i y hy'
      exact hf.row hr (hfX _ _ _ _ hr (by decide) (by decide))
  · rcases addR_get hy with ⟨rfl, rfl, rfl⟩ | hy'
    · rw [hVs]
      exact hi c hc
    · have hl := wlive_get (n := n) (dn := dn) ha hy'
      rw [hVo c a _ hl]
      have hr := h.irow a ha i y hy' c hc
      refine hr.of_block (fun b hb => hf.block b (hr.lt b hb).2 (fun hc' => ?_))
      rcases hc' with hc' | hc'
      · rw [hc'] at hb
        exact hr.ne h.rrow (by decide) hb
      · rcases h.srow t ht with ⟨g, _⟩ | ⟨g, off, cap, sz, f, hv, _, hr', _⟩
        · rw [g] at hc'; cases hc'
        · rw [hv] at hc'; cases hc'
          exact hr.ne hr' (by decide) hb
  · obtain ⟨y, hy⟩ : ∃ y, ((addR u t x).runs a)[i]? = some y := ⟨_, List.getElem?_eq_getElem hi'⟩
    rcases addR_get hy with ⟨rfl, rfl, _⟩ | hy'
    · rw [hJs]; omega
    · rw [hJo a _ (wlive_get ha hy')]
      exact h.lo.2.2 a ha i (List.getElem?_eq_some_iff.1 hy').1
  · have q : ∀ c, (upd Y.sv t v c).ownBlock = some b → (Y.sv c).ownBlock = some b ∨ (c = t ∧ w.heap.size ≤ b) := fun c hc => by
      by_cases e : c = t
      · subst e
        rw [upd_same] at hc
        rcases hvb b hc with g | g
        · exact .inl g
        · exact .inr ⟨rfl, g⟩
      · rw [upd_other _ _ e] at hc
        exact .inl hc
    rcases q a e1 with g1 | ⟨g1, g1'⟩
    · rcases q a' e2 with g2 | ⟨g2, g2'⟩
      · exact hs.sl a a' b ha ha' g1 g2
      · have := hslt a b ha g1; omega
    · rcases q a' e2 with g2 | ⟨g2, g2'⟩
      · have := hslt a' b ha' g2; omega
      · omega
  · rcases addR_live g1 with ⟨rfl, rfl⟩ | l1
    · rcases addR_live g2 with ⟨rfl, rfl⟩ | l2
      · exact ⟨rfl, rfl⟩
      · rw [hJs, hJo _ _ l2] at e
        have := hjlt _ _ l2; omega
    · rcases addR_live g2 with ⟨rfl, rfl⟩ | l2
      · rw [hJs, hJo _ _ l1] at e
        have := hjlt _ _ l1; omega
      · rw [hJo _ _ l1, hJo _ _ l2] at e
        exact hs.jb _ _ _ _ l1 l2 e
  · rcases addR_live g1 with ⟨rfl, rfl⟩ | l1
    · rw [hVs] at e1
      rcases addR_live g2 with ⟨rfl, rfl⟩ | l2
      · rw [hVs] at e2
        exact ⟨hid c c' b hc hc' e1 e2, rfl, rfl⟩
      · rw [hVo _ _ _ l2] at e2
        exact absurd (.inr (.inr (.inr (.inr ⟨c', a', k', hc', l2, e2⟩)))) (hin c hc b e1).2
    · rw [hVo _ _ _ l1] at e1
      rcases addR_live g2 with ⟨rfl, rfl⟩ | l2
      · rw [hVs] at e2
        exact absurd (.inr (.inr (.inr (.inr ⟨c, a, k, hc, l1, e1⟩)))) (hin c' hc' b e2).2
      · rw [hVo _ _ _ l2] at e2
        exact hs.iv c a k c' a' k' b hc hc' l1 l2 e1 e2
  · refine hm.fr.trans hf (fun b hb => hm.ft b ?_)
    rcases hb with g | g
    · exact .inr (.inl g)
    · exact .inr (.inr (.inl ⟨t, ht, g⟩))
  · suffices hx : footW n u dn Y b ∨ ws.heap.size ≤ b by
      rcases hx with g | g
      · exact hm.ft b g
      · exact .inr g
    rcases hb with g | g | ⟨a, ha, g⟩ | ⟨a, k, g1, g2⟩ | ⟨c, a, k, g1, g2, g3⟩
    · exact .inl (.inl g)
    · exact .inl (.inr (.inl g))
    · have g' : (upd Y.sv t v a).ownBlock = some b := g
      by_cases e : a = t
      · subst e
        rw [upd_same] at g'
        rcases hvb b g' with q | q
        · exact .inl (.inr (.inr (.inl ⟨a, ha, q⟩)))
        · exact .inr (by omega)
      · rw [upd_other _ _ e] at g'
        exact .inl (.inr (.inr (.inl ⟨a, ha, g'⟩)))
    · rcases addR_live g1 with ⟨rfl, rfl⟩ | l1
      · rw [hJs] at g2
        exact .inr (by omega)
      · rw [hJo _ _ l1] at g2
        exact .inl (.inr (.inr (.inr (.inl ⟨a, k, l1, g2⟩))))
    · rcases addR_live g2 with ⟨rfl, rfl⟩ | l1
      · rw [hVs] at g3
        exact .inr (hin c g1 b g3).1
      · rw [hVo _ _ _ l1] at g3
        exact .inl (.inr (.inr (.inr (.inr ⟨c, a, k, g1, l1, g3⟩))))

/-- A list of one's own, as the law's watch takes it. -/
theorem SL.of_own {w : World} {base B : Nat} {v : Value} {l : List Int} (h : w.ownsRow base 3 1 v l.length (l.map (Value.int .i64))) (hB : B ≤ base) : SL 3 w B v (ints l) := by
  obtain ⟨_, ⟨rfl, h0⟩ | ⟨g, cap, cur, rfl, hb, hg, hle, _, hsz, ht⟩⟩ := h
  · refine .inl ⟨rfl, ?_⟩
    have : l = [] := List.length_eq_zero_iff.1 h0
    rw [this]; rfl
  · rw [Nat.mul_one] at hsz ht
    refine .inr ⟨g, 0, cap, cap, fun q => cur.toList.getD q (.int .i64 0), by rw [ints_len], by omega, ⟨cur, hg, hsz, fun i hi => ?_⟩, by omega, by rw [ints_len]; exact hle, fun i x hx => ?_⟩
    · simp [List.getD, hsz, hi]
    · have hx' : (cur.toList.take l.length)[i]? = some x := by rw [ht]; exact hx
      rw [List.getElem?_take] at hx'
      split at hx'
      · show cur.toList.getD (0 + i) _ = x
        rw [Nat.zero_add, List.getD_eq_getElem?_getD, hx']; rfl
      · cases hx'

theorem stepA_cases (T : TD) (Z : Nat → Int) (n : Nat) (m : Mc) (x y : Int) (R : Nat → Int) (rn : Nat) : ((stepA T Z n m x y R rn).2 ≠ 0 ∧ (stepA T Z n m x y R rn).1 = m) ∨
    ((stepA T Z n m x y R rn).2 = 0 ∧ (stepA T Z n m x y R rn).1 = added (sysOf T Z n) m (tkOf n x) (jitOf T (tkOf n x) y) (fun q => (demOf T (tkOf n x) R rn).getD q 0) ∧ refuse (sysOf T Z n) m (tkOf n x) (jitOf T (tkOf n x) y) (fun q => (demOf T (tkOf n x) R rn).getD q 0) (demOf T (tkOf n x) R rn).length = 0) := by
  unfold stepA arrive
  rw [Int.toNat_natCast]
  split
  · exact .inl ⟨show (5 : Int) ≠ 0 by decide, rfl⟩
  · split
    · rename_i h
      exact .inl ⟨h, rfl⟩
    · rename_i h
      exact .inr ⟨rfl, rfl, Classical.not_not.1 h⟩

theorem nowW_tick (S : Sy) (m : Mc) : (tick S m).1.now = m.now + 1 ∧ (tick S m).1.arrd = m.arrd := by
  rcases tick_cases S m with ⟨_, e⟩ | ⟨t, j, l, _, _, _, _, e⟩
  · rw [e]; exact ⟨rfl, rfl⟩
  · rw [e]
    unfold tickAt
    simp only []
    split <;> exact ⟨rfl, rfl⟩

theorem nowW_arrive (S : Sy) (m : Mc) (t jit : Int) (D : Nat → Int) (d : Nat) : (arrive S m t jit D d).1.now = m.now ∧ (arrive S m t jit D d).1.arrd ≤ m.arrd + 1 := by
  unfold arrive
  split
  · exact ⟨rfl, by show m.arrd ≤ _; omega⟩
  · split
    · exact ⟨rfl, by show m.arrd ≤ _; omega⟩
    · exact ⟨rfl, by show m.arrd + 1 ≤ _; omega⟩

theorem ScriptAt.belowW {w w' : World} {b off n : Nat} {X : SD} (h : ScriptAt w b off n X) (hb : b < w.heap.size) (hbel : Below w.heap.size w w') : ScriptAt w' b off n X := fun i hi => by
  obtain ⟨h0, h1, h2, h3, h4, h5, h6, h7⟩ := h i hi
  have c := fun q => hbel.cell (p := ⟨b, q, none⟩) hb
  exact ⟨(c _).trans h0, (c _).trans h1, (c _).trans h2, (c _).trans h3, h4, h5, h6, h7.below hbel⟩

theorem dems_rng {K N : Nat → Int} {L : Nat} (R : Nat → Int) (rn : Nat) (h : ∀ k, k < L → K k = 1 → 1 ≤ N k ∧ N k ≤ 100) : ∀ i, i < (demsOf K N L R rn).length → 1 ≤ (demsOf K N L R rn).getD i 0 ∧ (demsOf K N L R rn).getD i 0 ≤ 100 := by
  intro i hi
  have hi' : i < (compsTo K N L).length := by
    rw [demsOf_len] at hi
    rw [comps_len]; exact hi
  have hc : 1 ≤ (compsTo K N L).getD i 0 ∧ (compsTo K N L).getD i 0 ≤ 100 := comps_range L h _ (by
    rw [List.getD_eq_getElem?_getD, List.getElem?_eq_getElem hi']
    exact List.getElem_mem hi')
  have hp := pickI_range (c := R i) hc.1
  unfold demsOf
  rw [demsK_get _ _ _ _ hi']
  split <;> omega

theorem sumL_range {l : List Int} (h : ∀ i, i < l.length → 1 ≤ l.getD i 0 ∧ l.getD i 0 ≤ 100) : ∀ i, i ≤ l.length → 0 ≤ sumL (l.take i) ∧ sumL (l.take i) ≤ 100 * (i : Int)
  | 0, _ => by simp [sumL]
  | i + 1, hi => by
    have ih := sumL_range h i (by omega)
    have hl := h i (by omega)
    rw [sumL_snoc l i (by omega)]
    omega

end Go.Proofs.YtdabcflpcklfiaaGreat

/- The law's watched, walked. -/
namespace Go.Proofs.YtdabcflpcklfiaaGreat
open Go.RowKit Cad

theorem box8 (w : World) (a b c d e f g h : Value) (t : Nat) : (w.alloc (.cells #[a, b, c, d, e, f, g, h] t)).rowIs w.heap.size t 8 (fun q => if q = 0 then a else if q = 1 then b else if q = 2 then c else if q = 3 then d else if q = 4 then e else if q = 5 then f else if q = 6 then g else h) :=
  World.rowIs_alloc w #[a, b, c, d, e, f, g, h] t _ (fun i hi => by
    have hi' : i < 8 := hi
    match i, hi' with
    | 0, _ => rfl
    | 1, _ => rfl
    | 2, _ => rfl
    | 3, _ => rfl
    | 4, _ => rfl
    | 5, _ => rfl
    | 6, _ => rfl
    | 7, _ => rfl)

/-- A watch that has just been made. -/
theorem wst_start {w0 w1 w' : World} {n kb wb rb g : Nat} {tv pv : Value} {S : Sy} (hk : KSt (fun q => q < w0.heap.size ∨ q = g) w1 kb S Cad.start) (hb1 : Below w0.heap.size w0 w1) (hb2 : Below w1.heap.size w1 w')
    (hr : w'.rowIs rb 81 n (fun _ => .slice none 0 0)) (hw : w'.rowIs wb 71 8 (wcell kb n tv pv rb wstart)) (h1 : w1.heap.size ≤ rb) (h2 : w1.heap.size ≤ wb) : WSt w0 w' n kb wb tv pv S Cad.start := by
  have hs := hb1.size
  refine ⟨wstart, fun _ => 0, ⟨wb, rb, fun _ => .slice none 0 0, fun _ _ => 0, fun _ _ _ => .slice none 0 0⟩, ⟨hw, hr, fun t ht => .inl ⟨rfl, rfl⟩, fun t ht i x hx => (by cases hx), fun t ht i x hx => (by cases hx), by show w0.heap.size ≤ wb; omega, by show w0.heap.size ≤ rb; omega, fun t ht i hi => (by cases hi)⟩, ⟨fun t t' b _ _ e => (by cases e), fun t k t' k' h => ?_, fun c t k c' t' k' b _ _ _ _ e => (by cases e)⟩, rfl, ?_, wi_start S, lk_start S, hb1.trans (hb2.mono hs), cn_start S⟩
  · obtain ⟨_, g2, g3⟩ := h
    have : (wstart.runs t).length = 0 := rfl
    omega
  · refine (hk.more (own' := _) ?_).below hb2
    rintro q (g | g | g | ⟨t, _, g⟩ | ⟨t, k, ⟨_, g2, g3⟩, _⟩ | ⟨c, t, k, _, _, g⟩)
    · exact .inl (.inl g)
    · exact .inr (by rw [g]; exact h2)
    · exact .inr (by rw [g]; exact h1)
    · cases g
    · have : (wstart.runs t).length = 0 := rfl
      omega
    · cases g

theorem Tryz.underlying69 : Tryz.prog.underlying 69 = some (.slice 81) := by kernel_rfl
theorem Tryz.info81 : (Tryz.prog.info? 81).map (fun i => (i.zero, i.size, i.bytes)) = some (some (.slice none 0 0), 1, 24) := by kernel_rfl

set_option maxRecDepth 100000 in
set_option maxHeartbeats 4000000 in
theorem watched_any (so ao : Option Addr) (n cap pn pc : Nat) (T : TD) (Z : Nat → Int) (w : World) (hm : n ≤ 9223372036854775807) (hT : 1 ≤ n → ∃ b off, so = some ⟨b, off, none⟩ ∧ b < w.heap.size ∧ TasksAt w b off n T)
    (hZ : 1 ≤ pn → ∃ pb po, ao = some ⟨pb, po, none⟩ ∧ pb < w.heap.size ∧ IntsAt w pb po pn Z) :
    Calls Tryz.prog 8 #[.slice so n cap, .slice ao pn pc] w fun e w' => (e = .returned (.tuple #[.pointer none, .bool true]) ∧ Below w.heap.size w w') ∨
      (∃ (kb wb : Nat), pn = n ∧ Good T n ∧ PrioB Z n ∧ e = .returned (.tuple #[.pointer (some ⟨wb, 0, none⟩), .bool true]) ∧ WSt w w' n kb wb (.slice so n cap) (.slice ao pn pc) (sysOf T Z n) Cad.start) := by
  have HO := opened_any so ao n cap pn pc T Z w hm hT hZ
  clear hT hZ
  go_enter Tryz.func8, Tryz.ntmps8
  go_wp2_with fail
  refine HO.mono ?_
  rintro e w1 (⟨rfl, hb1⟩ | ⟨kb, g, R, rfl, hG, hP, rfl, hgB, hrow, hR, hk, hb1⟩)
  · have HB1 : Hid (Below w.heap.size w w1) := hb1
    clear hb1
    go_wp2
    go_ret2
    exact .inl ⟨rfl, HB1.out⟩
  · have h8 := hG.eight
    have HB1 : Hid (Below w.heap.size w w1) := hb1
    have HG : Hid (Good T pn) := hG
    have HP : Hid (PrioB Z pn) := hP
    have HK : Hid (KSt (fun q => q < w.heap.size ∨ q = g) w1 kb (sysOf T Z pn) Cad.start) := hk
    clear hb1 hG hP hrow hR hk HO
    have hmk : ∀ w, (Instr.makeSlice 69 (.int .i64 (pn : Int)) (.int .i64 (pn : Int))).run Tryz.prog w = .ok (.slice (some ⟨w.heap.size, 0, none⟩) pn pn) (w.alloc (.cells (madeCells #[.slice none 0 0] pn) 81)) := fun w => run_make_row' 69 81 _ 24 Tryz.underlying69 Tryz.info81 rfl .i64 .i64 pn (by omega) (by omega) w
    go_wp2
    go_ret2
    refine .inr ⟨HG.out, HP.out, kb, w1.heap.size + 1, rfl, ?_⟩
    have r1 := World.rowIs_made w1 (.slice none 0 0) pn 81
    have b1 : Below w1.heap.size w1 (w1.alloc (.cells (madeCells #[.slice none 0 0] pn) 81)) := below_alloc1 _ _
    have b2 : Below (w1.alloc (.cells (madeCells #[.slice none 0 0] pn) 81)).heap.size (w1.alloc (.cells (madeCells #[.slice none 0 0] pn) 81)) ((w1.alloc (.cells (madeCells #[.slice none 0 0] pn) 81)).alloc (.cells #[.pointer (some ⟨kb, 0, none⟩), .slice so pn cap, .slice ao pn pc, .slice (some ⟨w1.heap.size, 0, none⟩) pn pn, .int .i64 0, .int .i64 0, .int .i64 0, .int .i64 0] 71)) := below_alloc1 _ _
    have r2 := box8 (w1.alloc (.cells (madeCells #[.slice none 0 0] pn) 81)) (.pointer (some ⟨kb, 0, none⟩)) (.slice so pn cap) (.slice ao pn pc) (.slice (some ⟨w1.heap.size, 0, none⟩) pn pn) (.int .i64 0) (.int .i64 0) (.int .i64 0) (.int .i64 0) 71
    have e1 : (w1.alloc (.cells (madeCells #[.slice none 0 0] pn) 81)).heap.size = w1.heap.size + 1 := World.size_alloc _ _
    rw [e1] at r2
    exact wst_start HK.out HB1.out (b1.trans (b2.mono b1.size)) (r1.of_block (b2.block _ r1.lt)) (r2.congr (fun p hp => by
      match p, hp with
      | 0, _ => rfl
      | 1, _ => rfl
      | 2, _ => rfl
      | 3, _ => rfl
      | 4, _ => rfl
      | 5, _ => rfl
      | 6, _ => rfl
      | 7, _ => rfl)) (Nat.le_refl _) (by omega)

end Go.Proofs.YtdabcflpcklfiaaGreat
