import Derived.Test.YtdabcflpcklfiaaGreatA28
import Derived.Test.YtdabcflpcklfiaaGreatA29
import Derived.Test.YtdabcflpcklfiaaGreatA30
/- Plain mathematics of Counted: the records of the jobs, what is left, who holds what. -/
namespace Go.Proofs.YtdabcflpcklfiaaGreat
open Cad

theorem mem_recs {S : Sy} {m : Mc} {r : Rc} : r ∈ allRecs S m ↔ r ∈ m.kept ∨ ∃ t, t < S.n ∧ ∃ j ∈ m.q t, r = openRc t j := by
  unfold allRecs
  simp only [List.mem_append, List.mem_flatMap, List.mem_range, List.mem_map]
  constructor
  · rintro (h | ⟨t, ht, j, hj, rfl⟩)
    · exact .inl h
    · exact .inr ⟨t, ht, j, hj, rfl⟩
  · rintro (h | ⟨t, ht, j, hj, rfl⟩)
    · exact .inl h
    · exact .inr ⟨t, ht, j, hj, rfl⟩

/-! ### sums over the records -/
/-! ### who holds what -/
end Go.Proofs.YtdabcflpcklfiaaGreat

/- Holds of a kernel. -/
namespace Go.Proofs.YtdabcflpcklfiaaGreat
open Go.RowKit Cad Go.MuLone

set_option maxHeartbeats 1000000 in
theorem mholds_any (S : Sy) (m : Mc) (Y : Lay) (w : World) (h : MAt w S m Y) {r : Nat} (hr : r < 8) :
    Calls Tryz.prog 59 #[.pointer (some ⟨Y.mb, 0, none⟩), .int .i64 r] w fun e w' => e = .returned (.tuple #[.int .i64 (m.hold r), .int .i64 0]) ∧ Below w.heap.size w w' := by
  have c0 := h.hc hr
  have hml := h.mrow.lt
  clear h
  go_enter Tryz.func59, Tryz.ntmps59
  go_wp2
  go_ret2
  exact ⟨rfl, Below.refl _ _⟩

set_option maxHeartbeats 1000000 in
theorem kholds_any (kb : Nat) (S : Sy) (m : Mc) (Y : Lay) (w : World) (h : KAt w kb S m Y) {r : Nat} (hr : r < 8) :
    Calls Tryz.prog 34 #[.pointer (some ⟨kb, 0, none⟩), .int .i64 r] w fun e w' => e = .returned (.tuple #[.int .i64 (m.hold r), .int .i64 0]) ∧ KMoved kb S m m Y Y w w' := by
  have c0 : w.cell? ⟨kb, 0, none⟩ = some (.int .i32 0) := by rw [h.krow.cell (by omega)]; rfl
  have c2 : w.cell? ⟨kb, 2, none⟩ = some (.pointer (some ⟨Y.mb, 0, none⟩)) := by rw [h.krow.cell (by omega)]; rfl
  have z0 := h.krow.frozen 0
  have hkl := h.krow.lt
  have HK : Hid (KAt w kb S m Y) := h
  clear h
  go_enter_defers Tryz.func34, Tryz.ntmps34
  go_wp2_with (go_at_call 52; refine (lock_free Tryz.muLib ⟨kb, 0, none⟩ _ c0 z0).mono ?_; rintro e w' ⟨rfl, rfl⟩)
  refine (mholds_any S m Y _ (HK.out.locked _) hr).mono ?_
  rintro e w2 ⟨rfl, hb2⟩
  obtain ⟨q0, qz, hkm⟩ := unlocked HK.out (Moved.refl (HK.out.locked _) HK.out.sep hb2) HK.out.ok
  have HKM : Hid (KMoved kb S m m Y Y w (w2.setCell ⟨kb, 0, none⟩ (.int .i32 0))) := hkm
  clear hkm hb2
  go_wp2
  refine leaves_cons (f := 53) (args := #[.pointer (some ⟨kb, 0, none⟩)]) (by simp) (by simp [go_sem]) ?_
  refine (unlock_deferred Tryz.muLib ⟨kb, 0, none⟩ .returning _ q0 qz).mono ?_
  rintro e u' w'' ⟨rfl, rfl, rfl⟩
  exact ⟨_, results_tmp2 rfl _ _ _, ⟨rfl, HKM.out⟩⟩

theorem kst_holds {own : Nat → Prop} {w : World} {kb : Nat} {S : Sy} {m : Mc} (hown : ∀ q, own q → q < w.heap.size) (h : KSt own w kb S m) {r : Nat} (hr : r < 8) :
    Calls Tryz.prog 34 #[.pointer (some ⟨kb, 0, none⟩), .int .i64 r] w fun e w' => e = .returned (.tuple #[.int .i64 (m.hold r), .int .i64 0]) ∧ KSt own w' kb S m ∧ Fr (fun q => ¬ own q) w w' := by
  obtain ⟨Y, hk, ho⟩ := h
  refine (kholds_any kb S m Y w hk hr).mono ?_
  rintro e w' ⟨he, hm⟩
  exact ⟨he, KSt.moved hown ho hm⟩

end Go.Proofs.YtdabcflpcklfiaaGreat

/- The law's counted, walked. -/
namespace Go.Proofs.YtdabcflpcklfiaaGreat
open Go.RowKit Cad

theorem recs_len {S : Sy} {m : Mc} (ho : Ok S m) {l : List Rc} (hp : l.Perm (allRecs S m)) : l.length ≤ 104 := by
  rw [hp.length_eq]
  have h1 := ho.keptn
  have h2 := allKeys_len ho
  have h3 : ((List.range S.n).flatMap fun t => (m.q t).map (openRc t)).length = (allKeys S m).length := by rw [← recs_keys, List.length_map]
  unfold allRecs
  rw [List.length_append, h3]
  omega

end Go.Proofs.YtdabcflpcklfiaaGreat
