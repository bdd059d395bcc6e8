import Derived.Test.YtdabcflpcklfiaaGreatSb
import Derived.Test.YtdabcflpcklfiaaGreatK31
/- Look and Jobs of a kernel. -/
namespace Go.Proofs.YtdabcflpcklfiaaGreat
open Go.RowKit Cad Go.MuLone

theorem row2 {w : World} {b t : Nat} {f : Nat → Value} (h : w.rowIs b t 2 f) : w.heap[b]? = some (.cells #[f 0, f 1] t (0, 0)) := by
  obtain ⟨c, hc, hs, hf⟩ := h
  rw [hc]
  have : c = #[f 0, f 1] := by
    apply Array.ext
    · rw [hs]; rfl
    · intro i h1 h2
      have hi : i < 2 := by rw [← hs]; exact h1
      have := hf i hi
      match i, hi with
      | 0, _ => simpa using (Array.getElem?_eq_some_iff.1 (by simpa using this)).2
      | 1, _ => simpa using (Array.getElem?_eq_some_iff.1 (by simpa using this)).2
  rw [this]

set_option maxHeartbeats 1000000 in
theorem mlook_any (S : Sy) (m : Mc) (Y : Lay) (w : World) (h : MAt w S m Y) :
    Calls Tryz.prog 57 #[.pointer (some ⟨Y.mb, 0, none⟩)] w fun e w' => e = .returned (.agg #[.int .i64 m.now, .int .i64 m.idle]) ∧ Below w.heap.size w w' := by
  have c0 : w.cell? ⟨Y.mb, 0, none⟩ = some (.int .i64 m.now) := by rw [h.mrow.cell (by omega)]; rfl
  have c1 : w.cell? ⟨Y.mb, 1, none⟩ = some (.int .i64 m.idle) := by rw [h.mrow.cell (by omega)]; rfl
  have hml := h.mrow.lt
  clear h
  go_enter Tryz.func57, Tryz.ntmps57
  go_wp2
  go_region
  go_wp2
  refine bodyPost_ret (results_cell_row rfl _ _ w.heap.size 88 #[.int .i64 m.now, .int .i64 m.idle] (0, 0) _ rfl (Deep.blk_alloc_new _ _) Tryz.underlying88 rfl (by kernel_rfl)) rfl ?_
  exact ⟨rfl, (below_alloc1 _ _).drew⟩

set_option maxHeartbeats 1000000 in
theorem klook_any (kb : Nat) (S : Sy) (m : Mc) (Y : Lay) (w : World) (h : KAt w kb S m Y) :
    Calls Tryz.prog 32 #[.pointer (some ⟨kb, 0, none⟩)] w fun e w' => e = .returned (.agg #[.int .i64 m.now, .int .i64 m.idle]) ∧ KMoved kb S m m Y Y w w' := by
  have hkl := h.krow.lt
  have c0 : (w.alloc (.cells #[.int .i64 0, .int .i64 0] 88)).cell? ⟨kb, 0, none⟩ = some (.int .i32 0) := ((below_alloc1 w _).cell (p := ⟨kb, 0, none⟩) hkl).trans (by rw [h.krow.cell (by omega)]; rfl)
  have c2 : w.cell? ⟨kb, 2, none⟩ = some (.pointer (some ⟨Y.mb, 0, none⟩)) := by rw [h.krow.cell (by omega)]; rfl
  have z0 : (w.alloc (.cells #[.int .i64 0, .int .i64 0] 88)).frozen? ⟨kb, 0, none⟩ = false := (h.krow.alloc _).frozen 0
  have HK : Hid (KAt w kb S m Y) := h
  clear h
  go_enter_defers Tryz.func32, Tryz.ntmps32
  go_wp2_with (go_at_call 52; refine (lock_free Tryz.muLib ⟨kb, 0, none⟩ _ c0 z0).mono ?_; rintro e w' ⟨rfl, rfl⟩)
  refine (mlook_any S m Y _ ((HK.out.locked _).below (below_alloc1 _ _))).mono ?_
  rintro e w2 ⟨rfl, hb2⟩
  have hrow : w2.rowIs w.heap.size 88 2 (fun _ => .int .i64 0) := by
    have h1 := World.rowIs_alloc (w.setCell ⟨kb, 0, none⟩ (.int .i32 1)) #[.int .i64 0, .int .i64 0] 88 (fun _ => .int .i64 0) (fun i hi => by
      have hi' : i < 2 := hi
      match i, hi' with
      | 0, _ => rfl
      | 1, _ => rfl)
    have h2 := h1.of_block (hb2.block _ h1.lt)
    simpa using h2
  have x0 : w2.cell? ⟨w.heap.size, 0, none⟩ = some (.int .i64 0) := hrow.cell (by omega)
  have x1 : w2.cell? ⟨w.heap.size, 1, none⟩ = some (.int .i64 0) := hrow.cell (by omega)
  have xz : ∀ q, w2.frozen? ⟨w.heap.size, q, none⟩ = false := fun q => hrow.frozen q
  have hb3 : Below (w.setCell ⟨kb, 0, none⟩ (.int .i32 1)).heap.size (w.setCell ⟨kb, 0, none⟩ (.int .i32 1)) ((w2.setCell ⟨w.heap.size, 0, none⟩ (.int .i64 m.now)).setCell ⟨w.heap.size, 1, none⟩ (.int .i64 m.idle)) := (((below_alloc1 _ _).trans (hb2.mono (by simp))).setCell (by simp) _).setCell (by simp) _
  obtain ⟨q0, qz, hkm⟩ := unlocked HK.out (Moved.refl (HK.out.locked _) HK.out.sep hb3) HK.out.ok
  have HKM : Hid (KMoved kb S m m Y Y w (((w2.setCell ⟨w.heap.size, 0, none⟩ (.int .i64 m.now)).setCell ⟨w.heap.size, 1, none⟩ (.int .i64 m.idle)).setCell ⟨kb, 0, none⟩ (.int .i32 0))) := hkm
  have HRR : Hid ((((w2.setCell ⟨w.heap.size, 0, none⟩ (.int .i64 m.now)).setCell ⟨w.heap.size, 1, none⟩ (.int .i64 m.idle)).setCell ⟨kb, 0, none⟩ (.int .i32 0)).rowIs w.heap.size 88 2 (fun q => if q = 1 then .int .i64 m.idle else if q = 0 then .int .i64 m.now else .int .i64 0)) := ((hrow.set 0 _).set 1 _).setOther (by show w.heap.size ≠ kb; omega) _
  clear hkm hb2 hb3 hrow
  go_wp2
  refine leaves_cons (f := 53) (args := #[.pointer (some ⟨kb, 0, none⟩)]) (by simp) (by simp [go_sem]) ?_
  refine (unlock_deferred Tryz.muLib ⟨kb, 0, none⟩ .returning _ q0 qz).mono ?_
  rintro e u' w'' ⟨rfl, rfl, rfl⟩
  refine ⟨_, results_cell_row rfl _ _ w.heap.size 88 #[.int .i64 m.now, .int .i64 m.idle] (0, 0) _ rfl (row2 HRR.out) Tryz.underlying88 rfl (by kernel_rfl), ⟨rfl, HKM.out⟩⟩

set_option maxHeartbeats 1000000 in
theorem kjobs_any (hS : SortC) (kb : Nat) (S : Sy) (m : Mc) (Y : Lay) (w : World) (h : KAt w kb S m Y) :
    Calls Tryz.prog 33 #[.pointer (some ⟨kb, 0, none⟩)] w fun e w' => ∃ g l, e = .returned (.slice (some ⟨g, 0, none⟩) l.length l.length) ∧ w.heap.size ≤ g ∧ w'.rowIs g 93 (l.length * 5) (jobF l) ∧ l.Perm (allRecs S m) ∧ l.Pairwise (fun a b => a.ord ≤ b.ord) ∧ KMoved kb S m m Y Y w w' := by
  have c0 : w.cell? ⟨kb, 0, none⟩ = some (.int .i32 0) := by rw [h.krow.cell (by omega)]; rfl
  have c2 : w.cell? ⟨kb, 2, none⟩ = some (.pointer (some ⟨Y.mb, 0, none⟩)) := by rw [h.krow.cell (by omega)]; rfl
  have z0 := h.krow.frozen 0
  have hkl := h.krow.lt
  have HK : Hid (KAt w kb S m Y) := h
  clear h
  go_enter_defers Tryz.func33, Tryz.ntmps33
  go_wp2_with (go_at_call 52; refine (lock_free Tryz.muLib ⟨kb, 0, none⟩ _ c0 z0).mono ?_; rintro e w' ⟨rfl, rfl⟩)
  refine (mjobs_any hS S m Y _ HK.out.ok (HK.out.locked _)).mono ?_
  rintro e w2 ⟨g, l, rfl, hg, hrow, hperm, hsort, hb2⟩
  have hg' : w.heap.size ≤ g := by simpa using hg
  obtain ⟨q0, qz, hkm⟩ := unlocked HK.out (Moved.refl (HK.out.locked _) HK.out.sep hb2) HK.out.ok
  have HKM : Hid (KMoved kb S m m Y Y w (w2.setCell ⟨kb, 0, none⟩ (.int .i32 0))) := hkm
  have HROW : Hid ((w2.setCell ⟨kb, 0, none⟩ (.int .i32 0)).rowIs g 93 (l.length * 5) (jobF l)) := hrow.setOther (by show g ≠ kb; omega) _
  have HP : Hid (l.Perm (allRecs S m)) := hperm
  have HSO : Hid (l.Pairwise (fun a b => a.ord ≤ b.ord)) := hsort
  clear hkm hb2 hrow hperm hsort hg
  go_wp2
  refine leaves_cons (f := 53) (args := #[.pointer (some ⟨kb, 0, none⟩)]) (by simp) (by simp [go_sem]) ?_
  refine (unlock_deferred Tryz.muLib ⟨kb, 0, none⟩ .returning _ q0 qz).mono ?_
  rintro e u' w'' ⟨rfl, rfl, rfl⟩
  exact ⟨_, results_tmp rfl _ _ _, ⟨g, l, rfl, hg', HROW.out, HP.out, HSO.out, HKM.out⟩⟩

theorem kst_look {own : Nat → Prop} {w : World} {kb : Nat} {S : Sy} {m : Mc} (hown : ∀ q, own q → q < w.heap.size) (h : KSt own w kb S m) :
    Calls Tryz.prog 32 #[.pointer (some ⟨kb, 0, none⟩)] w fun e w' => e = .returned (.agg #[.int .i64 m.now, .int .i64 m.idle]) ∧ KSt own w' kb S m ∧ Fr (fun q => ¬ own q) w w' := by
  obtain ⟨Y, hk, ho⟩ := h
  refine (klook_any kb S m Y w hk).mono ?_
  rintro e w' ⟨he, hm⟩
  exact ⟨he, KSt.moved hown ho hm⟩

theorem kst_jobs (hS : SortC) {own : Nat → Prop} {w : World} {kb : Nat} {S : Sy} {m : Mc} (hown : ∀ q, own q → q < w.heap.size) (h : KSt own w kb S m) :
    Calls Tryz.prog 33 #[.pointer (some ⟨kb, 0, none⟩)] w fun e w' => ∃ g l, e = .returned (.slice (some ⟨g, 0, none⟩) l.length l.length) ∧ w.heap.size ≤ g ∧ w'.rowIs g 93 (l.length * 5) (jobF l) ∧ l.Perm (allRecs S m) ∧ l.Pairwise (fun a b => a.ord ≤ b.ord) ∧
      KSt (fun q => own q ∨ q = g) w' kb S m ∧ Fr (fun q => ¬ own q) w w' := by
  obtain ⟨Y, hk, ho⟩ := h
  refine (kjobs_any hS kb S m Y w hk).mono ?_
  rintro e w' ⟨g, l, he, hg, hrow, hp, hs, hm⟩
  obtain ⟨h1, h2⟩ := KSt.moved hown ho hm
  refine ⟨g, l, he, hg, hrow, hp, hs, ⟨Y, hm.kat, fun q hq hoq => ?_⟩, h2⟩
  rcases hoq with hoq | rfl
  · exact ho q hq hoq
  · have := hk.foot_lt hq; omega

end Go.Proofs.YtdabcflpcklfiaaGreat
