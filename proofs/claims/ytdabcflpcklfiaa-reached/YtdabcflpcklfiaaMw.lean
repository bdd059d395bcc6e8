import Derived.Test.YtdabcflpcklfiaaMv
import Derived.Test.YtdabcflpcklfiaaMp
/- A kernel lets a job arrive. -/
namespace Go.Proofs.Ytdabcflpcklfiaa
open Go.RowKit Cad Go.MuLone

theorem jobOf_ok {S : Sy} {m : Mc} (h : Ok S m) {t : Nat} {jit : Int} {D : Nat → Int} {d : Nat} (ht : t < S.n) (hf : Fits (S.K t) (S.N t) (S.L t) D d) : JbOk (S.K t) (S.L t) (jobOf S m t jit D) := by
  obtain ⟨s1, s2, s3, s4, s5, s6⟩ := h.steps t ht
  have hl := h.len t ht
  refine ⟨by show 0 < S.L t; omega, s2, s3, s1, fun i _ hi h1 => ?_, fun i _ hi h1 => ?_, s4, ?_⟩
  · have := hf.1 i hi h1
    have := s6 i hi h1
    show 1 ≤ numOf _ _ _ i ∧ numOf _ _ _ i ≤ 100
    unfold numOf
    rw [if_pos h1]
    omega
  · show 0 ≤ numOf _ _ _ i ∧ numOf _ _ _ i ≤ 7
    unfold numOf
    rw [if_neg h1]
    exact s5 i hi h1
  · show demTo _ _ _ = demTo _ _ _ - demTo _ _ 0
    simp [demTo, jobOf]

theorem refuse_zero {S : Sy} {m : Mc} {t : Nat} {jit : Int} {D : Nat → Int} {d : Nat} (h : refuse S m t jit D d = 0) : Fits (S.K t) (S.N t) (S.L t) D d ∧ 0 ≤ jit ∧ jit ≤ S.J t ∧ (m.q t).length < 8 ∧ ¬ (0 < m.done t + (m.q t).length ∧ m.now - m.last t < S.P t) := by
  unfold refuse at h
  split at h
  · omega
  · split at h
    · omega
    · split at h
      · omega
      · split at h
        · omega
        · rename_i h1 h2 h3 h4
          exact ⟨by simpa using h3, by omega, by omega, by omega, h1⟩

theorem ok_added {S : Sy} {m : Mc} (h : Ok S m) (ha : m.arrd < 1000000000000000000) {t : Nat} {jit : Int} {D : Nat → Int} {d : Nat} (ht : t < S.n) (hr : refuse S m t jit D d = 0) : Ok S (added S m t jit D) := by
  obtain ⟨hf, hj0, hj1, hq, _⟩ := refuse_zero hr
  have hp := h.per t ht
  have n0 := h.now0
  refine { h with arrd := ?_, few := ?_, many := ?_, lastn := ?_, job := ?_ }
  · have := h.arrd; show 0 ≤ m.arrd + 1 ∧ m.arrd + 1 ≤ _; omega
  · intro t' ht'
    show (upd m.q t (m.q t ++ [jobOf S m t jit D]) t').length ≤ 8
    by_cases e : t' = t
    · rw [e, upd_same]; simp; omega
    · rw [upd_other _ _ e]; exact h.few t' ht'
  · intro t' ht'
    show (m.done t' : Int) + ((upd m.q t (m.q t ++ [jobOf S m t jit D]) t').length : Int) ≤ m.arrd + 1
    have := h.many t' ht'
    by_cases e : t' = t
    · subst e
      rw [upd_same]; simp; omega
    · rw [upd_other _ _ e]; omega
  · intro t' ht'
    show 0 ≤ upd m.last t m.now t' ∧ upd m.last t m.now t' ≤ m.now
    by_cases e : t' = t
    · rw [e, upd_same]; omega
    · rw [upd_other _ _ e]; exact h.lastn t' ht'
  · intro t' ht' jj hjj
    have hjj' : jj ∈ upd m.q t (m.q t ++ [jobOf S m t jit D]) t' := hjj
    have hold : ∀ jj ∈ m.q t', JbOk (S.K t') (S.L t') jj ∧ 0 ≤ jj.arr ∧ jj.arr ≤ m.now ∧ 0 ≤ jj.rel ∧ jj.rel ≤ m.now + 10000 ∧ 0 ≤ jj.ord ∧ jj.ord < m.arrd + 1 := fun jj hm => by
      obtain ⟨a1, a2, a3, a4, a5, a6, a7⟩ := h.job t' ht' jj hm
      exact ⟨a1, a2, a3, a4, a5, a6, by omega⟩
    by_cases e : t' = t
    · subst e
      rw [upd_same] at hjj'
      rcases List.mem_append.1 hjj' with hm | hm
      · exact hold jj hm
      · have : jj = jobOf S m t' jit D := by simpa using hm
        subst this
        refine ⟨jobOf_ok h ht' hf, n0, Int.le_refl _, ?_, ?_, h.arrd.1, ?_⟩
        · show 0 ≤ m.now + jit; omega
        · show m.now + jit ≤ m.now + 10000; omega
        · show m.arrd < m.arrd + 1; omega
    · rw [upd_other _ _ e] at hjj'
      exact hold jj hjj'

theorem ok_arrive {S : Sy} {m : Mc} (h : Ok S m) (ha : m.arrd < 1000000000000000000) {x jit : Int} {D : Nat → Int} {d : Nat} : Ok S (arrive S m x jit D d).1 := by
  unfold arrive
  split
  · exact h
  · split
    · exact h
    · rename_i h1 h2
      exact ok_added h ha (by omega) (by simpa using h2)

/-- The machine lets a job arrive. -/
theorem marrive_any (S : Sy) (m : Mc) (Y : Lay) (x jit : Int) (db dof d dc : Nat) (D : Nat → Int) (ao : Option Addr) (w : World) (ho : Ok S m) (h : MAt w S m Y) (hs : Sep S m Y) (har : m.arrd < 1000000000000000000) (hd : d ≤ 9223372036854775806)
    (hD : 1 ≤ d → ao = some ⟨db, dof, none⟩ ∧ db < w.heap.size ∧ IntsIn w db dof d D) :
    Calls Try.prog 57 #[.pointer (some ⟨Y.mb, 0, none⟩), .int .i64 x, .int .i64 jit, .slice ao d dc] w fun e w' => e = .returned (.int .i64 (arrive S m x jit D d).2) ∧ ∃ Y', Moved S m (arrive S m x jit D d).1 Y Y' w w' := by
  by_cases hx : x < 0 ∨ (S.n : Int) ≤ x
  · have e : arrive S m x jit D d = (m, 5) := by unfold arrive; rw [if_pos hx]
    rw [e]
    exact (marrive_none S m Y x jit _ w ho h hs hx).mono (fun e w' hh => ⟨hh.1, Y, hh.2⟩)
  · obtain ⟨t, rfl⟩ : ∃ t : Nat, x = (t : Int) := ⟨x.toNat, by omega⟩
    have ht : t < S.n := by omega
    have e : arrive S m (t : Int) jit D d = (if refuse S m t jit D d ≠ 0 then m else added S m t jit D, refuse S m t jit D d) := by
      unfold arrive
      rw [if_neg hx]
      simp only [Int.toNat_natCast]
      by_cases hr : refuse S m t jit D d ≠ 0
      · rw [if_pos hr, if_pos hr]
      · rw [if_neg hr, if_neg hr]
        have : refuse S m t jit D d = 0 := by simpa using hr
        rw [this]
    rw [e]
    exact marrive_task S m Y t jit db dof d dc D ao w ho ht h hs har hd hD _ _ rfl rfl

set_option maxHeartbeats 1000000 in
/-- Arrive. -/
theorem karrive_any (kb : Nat) (S : Sy) (m : Mc) (Y : Lay) (x jit : Int) (db dof d dc : Nat) (D : Nat → Int) (ao : Option Addr) (w : World) (h : KAt w kb S m Y) (har : m.arrd < 1000000000000000000) (hd : d ≤ 9223372036854775806)
    (hD : 1 ≤ d → ao = some ⟨db, dof, none⟩ ∧ db < w.heap.size ∧ IntsIn w db dof d D) :
    Calls Try.prog 29 #[.pointer (some ⟨kb, 0, none⟩), .int .i64 x, .int .i64 jit, .slice ao d dc] w fun e w' => e = .returned (.int .i64 (arrive S m x jit D d).2) ∧ ∃ Y', KMoved kb S m (arrive S m x jit D d).1 Y Y' w w' := by
  have c0 : w.cell? ⟨kb, 0, none⟩ = some (.int .i32 0) := by rw [h.krow.cell (by omega)]; rfl
  have c2 : w.cell? ⟨kb, 2, none⟩ = some (.pointer (some ⟨Y.mb, 0, none⟩)) := by rw [h.krow.cell (by omega)]; rfl
  have z0 := h.krow.frozen 0
  have HK : Hid (KAt w kb S m Y) := h
  have HD2 : Hid (1 ≤ d → ao = some ⟨db, dof, none⟩ ∧ db < (w.setCell ⟨kb, 0, none⟩ (.int .i32 1)).heap.size ∧ IntsIn (w.setCell ⟨kb, 0, none⟩ (.int .i32 1)) db dof d D) := fun h1 => by
    obtain ⟨e, hdb, hi⟩ := hD h1
    have hne : db ≠ kb := fun e => by
      subst e
      have i0 := hi 0 (by omega)
      obtain ⟨c, hc, hcs, hcf⟩ := h.krow
      simp only [World.cell?, hc] at i0
      have i0' : c[dof + 0]? = some (.int .i64 (D 0)) := by simpa using i0
      have hlt : dof + 0 < 3 := by
        have := (Array.getElem?_eq_some_iff.1 i0').1
        omega
      rw [hcf (dof + 0) hlt] at i0'
      unfold kcell at i0'
      split at i0'
      · simp at i0'
      · split at i0'
        · simp at i0'
        · simp at i0'
    exact ⟨e, by simpa using hdb, fun i hq => by
      rw [← hi i hq]
      simp only [World.cell?]
      rw [Deep.blk_setCell_other _ _ _ _ (by simpa using hne)]⟩
  clear h hD
  go_enter_defers Try.func29, Try.ntmps29
  go_wp2_with (go_at_call 52; refine (lock_free Try.muLib ⟨kb, 0, none⟩ _ c0 z0).mono ?_; rintro e w' ⟨rfl, rfl⟩)
  refine (marrive_any S m Y x jit db dof d dc D ao _ HK.out.ok (HK.out.locked _) HK.out.sep har hd HD2.out).mono ?_
  rintro e w2 ⟨rfl, Y', hmv⟩
  obtain ⟨q0, qz, hkm⟩ := unlocked HK.out hmv (ok_arrive HK.out.ok har)
  have HKM : Hid (KMoved kb S m (arrive S m x jit D d).1 Y Y' w (w2.setCell ⟨kb, 0, none⟩ (.int .i32 0))) := hkm
  clear hkm hmv
  go_wp2
  refine leaves_cons (f := 53) (args := #[.pointer (some ⟨kb, 0, none⟩)]) (by simp) (by simp [go_sem]) ?_
  refine (unlock_deferred Try.muLib ⟨kb, 0, none⟩ .returning _ q0 qz).mono ?_
  rintro e u' w'' ⟨rfl, rfl, rfl⟩
  exact ⟨_, results_tmp rfl _ _ _, ⟨rfl, Y', HKM.out⟩⟩

end Go.Proofs.Ytdabcflpcklfiaa
