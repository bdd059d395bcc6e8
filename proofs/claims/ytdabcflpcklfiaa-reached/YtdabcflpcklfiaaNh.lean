import Derived.Test.YtdabcflpcklfiaaNg
/- The kernel beside the law's own lists. -/
namespace Go.Proofs.Ytdabcflpcklfiaa
open Go.RowKit Cad

/-- The kernel, the bounds in g, and a list of numbers in fb. -/
structure RS (B g fb n : Nat) (R F : Nat → Int) (kb : Nat) (S : Sy) (m : Mc) (wr : World) : Prop where
  k : KSt (fun q => q < B ∨ q = g ∨ q = fb) wr kb S m
  rg : wr.rowIs g 3 n (fun q => .int .i64 (R q))
  rf : wr.rowIs fb 3 n (fun q => .int .i64 (F q))
  hg : B ≤ g
  hfb : B ≤ fb
  hne : g ≠ fb
  hB : B ≤ wr.heap.size

theorem RS.own {B g fb n kb : Nat} {R F : Nat → Int} {S : Sy} {m : Mc} {wr : World} (h : RS B g fb n R F kb S m wr) : ∀ q, (q < B ∨ q = g ∨ q = fb) → q < wr.heap.size := by
  rintro q (h1 | h1 | h1)
  · have := h.hB; omega
  · rw [h1]; exact h.rg.lt
  · rw [h1]; exact h.rf.lt

theorem RS.below {B g fb n kb : Nat} {R F : Nat → Int} {S : Sy} {m : Mc} {wr w' : World} (h : RS B g fb n R F kb S m wr) (hb : Below wr.heap.size wr w') : RS B g fb n R F kb S m w' :=
  ⟨h.k.below hb, h.rg.of_block (hb.block _ h.rg.lt), h.rf.of_block (hb.block _ h.rf.lt), h.hg, h.hfb, h.hne, by have := hb.size; have := h.hB; omega⟩

theorem RS.fr {B g fb n kb : Nat} {R F : Nat → Int} {S : Sy} {m m' : Mc} {wr w' : World} (h : RS B g fb n R F kb S m wr) (hk : KSt (fun q => q < B ∨ q = g ∨ q = fb) w' kb S m') (hf : Fr (fun q => ¬ (q < B ∨ q = g ∨ q = fb)) wr w') : RS B g fb n R F kb S m' w' ∧ Below B wr w' :=
  ⟨⟨hk, hf.row h.rg (fun e => e (.inr (.inl rfl))), hf.row h.rf (fun e => e (.inr (.inr rfl))), h.hg, h.hfb, h.hne, by have := hf.size; have := h.hB; omega⟩, hf.below h.hB (fun i hi => by
    rcases Nat.lt_or_ge i B with g | g
    · exact absurd (.inl g) hi
    · exact g)⟩

theorem rs_tick {B g fb n kb : Nat} {R F : Nat → Int} {S : Sy} {m : Mc} {wr : World} (h : RS B g fb n R F kb S m wr) (hnow : m.now < 1000000000000000000) :
    Calls Try.prog 25 #[.pointer (some ⟨kb, 0, none⟩)] wr fun e w' => e = .returned (.tuple #[.int .i64 (tick S m).2.1, .bool (tick S m).2.2]) ∧ RS B g fb n R F kb S (tick S m).1 w' ∧ Below B wr w' :=
  (kst_tick h.own h.k hnow).mono (fun _ _ hh => ⟨hh.1, h.fr hh.2.1 hh.2.2⟩)

/-- A job with demands in a list of one's own arrives. -/
theorem rs_arrive {B g fb n kb : Nat} {R F : Nat → Int} {S : Sy} {m : Mc} {wr : World} (h : RS B g fb n R F kb S m wr) (har : m.arrd < 1000000000000000000) (x jit : Int) (l : List Int) (v : Value) (base : Nat) (hv : wr.ownsRow base 3 1 v l.length (l.map (Value.int .i64))) (hl : l.length ≤ 16) :
    Calls Try.prog 29 #[.pointer (some ⟨kb, 0, none⟩), .int .i64 x, .int .i64 jit, v] wr fun e w' => e = .returned (.int .i64 (arrive S m x jit (fun q => l.getD q 0) l.length).2) ∧ RS B g fb n R F kb S (arrive S m x jit (fun q => l.getD q 0) l.length).1 w' ∧ Below B wr w' := by
  obtain ⟨ao, cap, rfl, hle, hc⟩ := own_shape hv
  by_cases h0 : 1 ≤ l.length
  · obtain ⟨gq, rfl, _, hgl, _⟩ := hc 0 (by omega)
    refine (kst_arrive (own := fun q => q < B ∨ q = g ∨ q = fb) x jit gq 0 l.length cap (fun q => l.getD q 0) (some ⟨gq, 0, none⟩) h.own h.k har (by omega) (fun _ => ⟨rfl, hgl, fun i hi => ?_⟩)).mono (fun _ _ hh => ⟨hh.1, h.fr hh.2.1 hh.2.2⟩)
    obtain ⟨g', e, _, _, hcell⟩ := hc i hi
    cases e
    rw [Nat.zero_add]
    exact hcell
  · exact (kst_arrive (own := fun q => q < B ∨ q = g ∨ q = fb) x jit 0 0 l.length cap (fun q => l.getD q 0) ao h.own h.k har (by omega) (fun g => absurd g h0)).mono (fun _ _ hh => ⟨hh.1, h.fr hh.2.1 hh.2.2⟩)

/-- The law writes into its own list. -/
theorem RS.set {B g fb n kb : Nat} {R F : Nat → Int} {S : Sy} {m : Mc} {wr : World} (h : RS B g fb n R F kb S m wr) (i : Nat) (x : Int) : RS B g fb n R (upd F i x) kb S m (wr.setCell ⟨fb, i, none⟩ (.int .i64 x)) ∧ Below B wr (wr.setCell ⟨fb, i, none⟩ (.int .i64 x)) := by
  have hfr : Fr (fun q => q = fb) wr (wr.setCell ⟨fb, i, none⟩ (.int .i64 x)) := (Fr.refl (fun q => q = fb) wr).setCell (a := ⟨fb, i, none⟩) (.inl rfl) _
  refine ⟨⟨h.k.other (hfr.mono (fun q hq => .inr (.inr hq))), hfr.row h.rg h.hne, ?_, h.hg, h.hfb, h.hne, by have := hfr.size; have := h.hB; omega⟩, hfr.below h.hB (fun q hq => by rw [hq]; exact h.hfb)⟩
  exact (h.rf.set i (.int .i64 x)).congr (fun q hq => by
    show (if q = i then Value.int .i64 x else .int .i64 (F q)) = .int .i64 (upd F i x q)
    unfold upd
    by_cases e : q = i
    · rw [if_pos e, if_pos e]
    · rw [if_neg e, if_neg e])

end Go.Proofs.Ytdabcflpcklfiaa
