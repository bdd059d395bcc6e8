import Derived.Test.YtdabcflpcklfiaaMo
import Derived.Test.YtdabcflpcklfiaaLocks
import Derived.Conc.MuLone
/- A kernel: its lock, and its machine. -/
namespace Go.Proofs.Ytdabcflpcklfiaa
open Go.RowKit Cad Go.MuLone

def kcell (mb q : Nat) : Value := if q = 0 then .int .i32 0 else if q = 1 then .int .u32 0 else .pointer (some ⟨mb, 0, none⟩)

/-- A kernel in memory. -/
structure KAt (w : World) (kb : Nat) (S : Sy) (m : Mc) (Y : Lay) : Prop where
  krow : w.rowIs kb 109 3 (kcell Y.mb)
  mat : MAt w S m Y
  sep : Sep S m Y
  ok : Ok S m

theorem MAt.not_foot {w : World} {S : Sy} {m : Mc} {Y : Lay} (h : MAt w S m Y) {b t n : Nat} {f : Nat → Value} (hr : w.rowIs b t n f) (h1 : t ≠ 135) (h2 : t ≠ 150) (h3 : t ≠ 99) (h4 : t ≠ 142) (h5 : t ≠ 140) : ¬ foot S m Y b := by
  intro hf
  rcases hf with rfl | rfl | rfl | ⟨t', ht, rfl⟩ | ⟨t', i, hl, hb⟩ | hk
  · exact row_ne hr h.mrow h1 rfl
  · exact row_ne hr h.trow h2 rfl
  · exact h.jmap.ne hr rfl
  · obtain ⟨g, hg⟩ := (h.prow t' ht).row
    exact row_ne hr hg h3 rfl
  · obtain ⟨ht, q1, q2⟩ := hl
    obtain ⟨j, hj⟩ : ∃ j, (m.q t')[i - m.done t']? = some j := ⟨_, List.getElem?_eq_getElem (by omega)⟩
    obtain ⟨r1, r2⟩ := h.jrow t' ht _ j hj
    rw [show m.done t' + (i - m.done t') = i from by omega] at r1 r2
    obtain ⟨g, hg⟩ := r2.row
    rcases hb with rfl | rfl
    · exact row_ne hr r1 h4 rfl
    · exact row_ne hr hg h3 rfl
  · exact own_neM h.kept hr h5 hk

theorem KAt.ne {w : World} {kb : Nat} {S : Sy} {m : Mc} {Y : Lay} (h : KAt w kb S m Y) : ¬ foot S m Y kb := h.mat.not_foot h.krow (by decide) (by decide) (by decide) (by decide) (by decide)

def footK (kb : Nat) (S : Sy) (m : Mc) (Y : Lay) (b : Nat) : Prop := b = kb ∨ foot S m Y b

/-- From one state of a kernel in memory to another. -/
structure KMoved (kb : Nat) (S : Sy) (m m' : Mc) (Y Y' : Lay) (w w' : World) : Prop where
  kat : KAt w' kb S m' Y'
  fr : Fr (footK kb S m Y) w w'
  foot : ∀ b, footK kb S m' Y' b → footK kb S m Y b ∨ w.heap.size ≤ b

theorem KAt.same {w w' : World} {kb : Nat} {S : Sy} {m : Mc} {Y : Lay} (h : KAt w kb S m Y) (hb : ∀ b, footK kb S m Y b → w'.heap[b]? = w.heap[b]?) : KAt w' kb S m Y :=
  ⟨h.krow.of_block (hb _ (.inl rfl)), h.mat.same (fun b hf => hb b (.inr hf)), h.sep, h.ok⟩

theorem KAt.foot_lt {w : World} {kb : Nat} {S : Sy} {m : Mc} {Y : Lay} (h : KAt w kb S m Y) {b : Nat} (hf : footK kb S m Y b) : b < w.heap.size := by
  rcases hf with rfl | hf
  · exact h.krow.lt
  · exact h.mat.foot_lt hf

theorem KAt.below {w w' : World} {kb : Nat} {S : Sy} {m : Mc} {Y : Lay} (h : KAt w kb S m Y) (hb : Below w.heap.size w w') : KAt w' kb S m Y := h.same (fun b hf => hb.block b (h.foot_lt hf))

/-- Behind the lock the machine lies as it did. -/
theorem KAt.locked {w : World} {kb : Nat} {S : Sy} {m : Mc} {Y : Lay} (h : KAt w kb S m Y) (v : Value) : MAt (w.setCell ⟨kb, 0, none⟩ v) S m Y := h.mat.same (fun b hb => Deep.blk_setCell_other _ _ _ _ (fun e => h.ne (by have e' : b = kb := e; rw [← e']; exact hb)))

/-- And when it is let go, the kernel stands. -/
theorem unlocked {w w' : World} {kb : Nat} {S : Sy} {m m' : Mc} {Y Y' : Lay} (h : KAt w kb S m Y) (hm : Moved S m m' Y Y' (w.setCell ⟨kb, 0, none⟩ (.int .i32 1)) w') (ho : Ok S m') : w'.cell? ⟨kb, 0, none⟩ = some (.int .i32 1) ∧ w'.frozen? ⟨kb, 0, none⟩ = false ∧ KMoved kb S m m' Y Y' w (w'.setCell ⟨kb, 0, none⟩ (.int .i32 0)) := by
  have hk1 : (w.setCell ⟨kb, 0, none⟩ (.int .i32 1)).rowIs kb 109 3 (fun q => if q = 0 then .int .i32 1 else kcell Y.mb q) := h.krow.set 0 _
  have hk2 := hm.fr.row hk1 h.ne
  have hne : ¬ foot S m' Y' kb := hm.mat.not_foot hk2 (by decide) (by decide) (by decide) (by decide) (by decide)
  refine ⟨by rw [hk2.cell (by omega)]; rfl, hk2.frozen 0, ⟨⟨?_, ?_, hm.sep, ho⟩, ?_, fun b hb => ?_⟩⟩
  · refine (hk2.set 0 (.int .i32 0)).congr (fun q _ => ?_)
    rw [hm.mb]
    unfold kcell
    by_cases e : q = 0
    · rw [if_pos e, if_pos e]
    · rw [if_neg e, if_neg e, if_neg e]
  · exact hm.mat.same (fun b hb => Deep.blk_setCell_other _ _ _ _ (fun e => hne (by have e' : b = kb := e; rw [← e']; exact hb)))
  · exact ((((Fr.refl (footK kb S m Y) w).setCell (a := ⟨kb, 0, none⟩) (.inl (.inl rfl)) _)).then (hm.fr.mono (fun i hi => .inr hi))).setCell (a := ⟨kb, 0, none⟩) (.inl (.inl rfl)) _
  · rcases hb with rfl | hb
    · exact .inl (.inl rfl)
    · rcases hm.foot b hb with h1 | h1
      · exact .inl (.inr h1)
      · exact .inr (by simpa using h1)

set_option maxHeartbeats 1000000 in
/-- Tick. -/
theorem ktick_any (kb : Nat) (S : Sy) (m : Mc) (Y : Lay) (w : World) (h : KAt w kb S m Y) (hnow : m.now < 1000000000000000000) :
    Calls Try.prog 25 #[.pointer (some ⟨kb, 0, none⟩)] w fun e w' => e = .returned (.tuple #[.int .i64 (tick S m).2.1, .bool (tick S m).2.2]) ∧ ∃ Y', KMoved kb S m (tick S m).1 Y Y' w w' := by
  have c0 : w.cell? ⟨kb, 0, none⟩ = some (.int .i32 0) := by rw [h.krow.cell (by omega)]; rfl
  have c2 : w.cell? ⟨kb, 2, none⟩ = some (.pointer (some ⟨Y.mb, 0, none⟩)) := by rw [h.krow.cell (by omega)]; rfl
  have z0 := h.krow.frozen 0
  have HK : Hid (KAt w kb S m Y) := h
  clear h
  go_enter_defers Try.func25, Try.ntmps25
  go_wp2_with (go_at_call 52; refine (lock_free Try.muLib ⟨kb, 0, none⟩ _ c0 z0).mono ?_; rintro e w' ⟨rfl, rfl⟩)
  refine (mtick_any S m Y _ HK.out.ok (HK.out.locked _) HK.out.sep hnow).mono ?_
  rintro e w2 ⟨rfl, Y', hmv⟩
  obtain ⟨q0, qz, hkm⟩ := unlocked HK.out hmv (ok_tick HK.out.ok hnow)
  have HKM : Hid (KMoved kb S m (tick S m).1 Y Y' w (w2.setCell ⟨kb, 0, none⟩ (.int .i32 0))) := hkm
  clear hkm hmv
  go_wp2
  refine leaves_cons (f := 53) (args := #[.pointer (some ⟨kb, 0, none⟩)]) (by simp) (by simp [go_sem]) ?_
  refine (unlock_deferred Try.muLib ⟨kb, 0, none⟩ .returning _ q0 qz).mono ?_
  rintro e u' w'' ⟨rfl, rfl, rfl⟩
  exact ⟨_, results_tmp2 rfl _ _ _, ⟨rfl, Y', HKM.out⟩⟩

end Go.Proofs.Ytdabcflpcklfiaa
