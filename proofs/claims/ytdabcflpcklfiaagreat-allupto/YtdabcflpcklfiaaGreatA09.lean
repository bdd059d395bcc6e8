import Derived.Test.YtdabcflpcklfiaaGreatA08
import Derived.Test.YtdabcflpcklfiaaGreatA06
import Derived.Test.YtdabcflpcklfiaaGreatProg
import Derived.Test.YtdabcflpcklfiaaGreatA01
import Derived.WalkKit
import Derived.WalkSpells
import Derived.WalkLawsBesides
import Derived.BigQuiet
import Derived.Deep.QuietTactic
/- A kernel lets a job arrive. -/
namespace Go.Proofs.YtdabcflpcklfiaaGreat
open Go.RowKit Cad Go.MuLone

theorem jobOf_ok {S : Sy} {m : Mc} (h : Ok S m) {t : Nat} {jit : Int} {D : Nat → Int} {d : Nat} (ht : t < S.n) (hf : Fits (S.K t) (S.N t) (S.L t) D d) : JbOk (S.K t) (S.L t) (jobOf S m t jit D) := by
  obtain ⟨s1, s2, s3, s4, s5, s6⟩ := h.steps t ht
  have hl := h.len t ht
  refine ⟨by show 0 < S.L t; omega, s2, s3, s1, fun i _ hi h1 => ?_, fun i _ hi h1 => ?_, s4, ?_⟩
  · have := hf.1 i hi h1
    have := s6 i hi h1
    show 1 ≤ numOf _ _ _ i ∧ numOf _ _ _ i ≤ 100
    unfold numOf
    rw [if_pos h1]
    omega
  · show 0 ≤ numOf _ _ _ i ∧ numOf _ _ _ i ≤ 7
    unfold numOf
    rw [if_neg h1]
    exact s5 i hi h1
  · show demTo _ _ _ = demTo _ _ _ - demTo _ _ 0
    simp [demTo, jobOf]

theorem refuse_zero {S : Sy} {m : Mc} {t : Nat} {jit : Int} {D : Nat → Int} {d : Nat} (h : refuse S m t jit D d = 0) : Fits (S.K t) (S.N t) (S.L t) D d ∧ 0 ≤ jit ∧ jit ≤ S.J t ∧ (m.q t).length < 8 ∧ ¬ (0 < m.done t + (m.q t).length ∧ m.now - m.last t < S.P t) := by
  unfold refuse at h
  split at h
  · omega
  · split at h
    · omega
    · split at h
      · omega
      · split at h
        · omega
        · rename_i h1 h2 h3 h4
          exact ⟨by simpa using h3, by omega, by omega, by omega, h1⟩

theorem ok_added {S : Sy} {m : Mc} (h : Ok S m) (ha : m.arrd < 1000000000000000000) {t : Nat} {jit : Int} {D : Nat → Int} {d : Nat} (ht : t < S.n) (hr : refuse S m t jit D d = 0) : Ok S (added S m t jit D) := by
  obtain ⟨hf, hj0, hj1, hq, _⟩ := refuse_zero hr
  have hp := h.per t ht
  have n0 := h.now0
  refine { h with arrd := ?_, few := ?_, many := ?_, lastn := ?_, job := ?_ }
  · have := h.arrd; show 0 ≤ m.arrd + 1 ∧ m.arrd + 1 ≤ _; omega
  · intro t' ht'
    show (upd m.q t (m.q t ++ [jobOf S m t jit D]) t').length ≤ 8
    by_cases e : t' = t
    · rw [e, upd_same]; simp; omega
    · rw [upd_other _ _ e]; exact h.few t' ht'
  · intro t' ht'
    show (m.done t' : Int) + ((upd m.q t (m.q t ++ [jobOf S m t jit D]) t').length : Int) ≤ m.arrd + 1
    have := h.many t' ht'
    by_cases e : t' = t
    · subst e
      rw [upd_same]; simp; omega
    · rw [upd_other _ _ e]; omega
  · intro t' ht'
    show 0 ≤ upd m.last t m.now t' ∧ upd m.last t m.now t' ≤ m.now
    by_cases e : t' = t
    · rw [e, upd_same]; omega
    · rw [upd_other _ _ e]; exact h.lastn t' ht'
  · intro t' ht' jj hjj
    have hjj' : jj ∈ upd m.q t (m.q t ++ [jobOf S m t jit D]) t' := hjj
    have hold : ∀ jj ∈ m.q t', JbOk (S.K t') (S.L t') jj ∧ 0 ≤ jj.arr ∧ jj.arr ≤ m.now ∧ 0 ≤ jj.rel ∧ jj.rel ≤ m.now + 10000 ∧ 0 ≤ jj.ord ∧ jj.ord < m.arrd + 1 := fun jj hm => by
      obtain ⟨a1, a2, a3, a4, a5, a6, a7⟩ := h.job t' ht' jj hm
      exact ⟨a1, a2, a3, a4, a5, a6, by omega⟩
    by_cases e : t' = t
    · subst e
      rw [upd_same] at hjj'
      rcases List.mem_append.1 hjj' with hm | hm
      · exact hold jj hm
      · have : jj = jobOf S m t' jit D := by simpa using hm
        subst this
        refine ⟨jobOf_ok h ht' hf, n0, Int.le_refl _, ?_, ?_, h.arrd.1, ?_⟩
        · show 0 ≤ m.now + jit; omega
        · show m.now + jit ≤ m.now + 10000; omega
        · show m.arrd < m.arrd + 1; omega
    · rw [upd_other _ _ e] at hjj'
      exact hold jj hjj'

theorem ok_arrive {S : Sy} {m : Mc} (h : Ok S m) (ha : m.arrd < 1000000000000000000) {x jit : Int} {D : Nat → Int} {d : Nat} : Ok S (arrive S m x jit D d).1 := by
  unfold arrive
  split
  · exact h
  · split
    · exact h
    · rename_i h1 h2
      exact ok_added h ha (by omega) (by simpa using h2)

/-- The machine lets a job arrive. -/
theorem marrive_any (S : Sy) (m : Mc) (Y : Lay) (x jit : Int) (db dof d dc : Nat) (D : Nat → Int) (ao : Option Addr) (w : World) (ho : Ok S m) (h : MAt w S m Y) (hs : Sep S m Y) (har : m.arrd < 1000000000000000000) (hd : d ≤ 9223372036854775806)
    (hD : 1 ≤ d → ao = some ⟨db, dof, none⟩ ∧ db < w.heap.size ∧ IntsIn w db dof d D) :
    Calls Tryz.prog 73 #[.pointer (some ⟨Y.mb, 0, none⟩), .int .i64 x, .int .i64 jit, .slice ao d dc] w fun e w' => e = .returned (.int .i64 (arrive S m x jit D d).2) ∧ ∃ Y', Moved S m (arrive S m x jit D d).1 Y Y' w w' := by
  by_cases hx : x < 0 ∨ (S.n : Int) ≤ x
  · have e : arrive S m x jit D d = (m, 5) := by unfold arrive; rw [if_pos hx]
    rw [e]
    exact (marrive_none S m Y x jit _ w ho h hs hx).mono (fun e w' hh => ⟨hh.1, Y, hh.2⟩)
  · obtain ⟨t, rfl⟩ : ∃ t : Nat, x = (t : Int) := ⟨x.toNat, by omega⟩
    have ht : t < S.n := by omega
    have e : arrive S m (t : Int) jit D d = (if refuse S m t jit D d ≠ 0 then m else added S m t jit D, refuse S m t jit D d) := by
      unfold arrive
      rw [if_neg hx]
      simp only [Int.toNat_natCast]
      by_cases hr : refuse S m t jit D d ≠ 0
      · rw [if_pos hr, if_pos hr]
      · rw [if_neg hr, if_neg hr]
        have : refuse S m t jit D d = 0 := by simpa using hr
        rw [this]
    rw [e]
    exact marrive_task S m Y t jit db dof d dc D ao w ho ht h hs har hd hD _ _ rfl rfl

set_option maxHeartbeats 1000000 in
/-- Arrive. -/
theorem karrive_any (kb : Nat) (S : Sy) (m : Mc) (Y : Lay) (x jit : Int) (db dof d dc : Nat) (D : Nat → Int) (ao : Option Addr) (w : World) (h : KAt w kb S m Y) (har : m.arrd < 1000000000000000000) (hd : d ≤ 9223372036854775806)
    (hD : 1 ≤ d → ao = some ⟨db, dof, none⟩ ∧ db < w.heap.size ∧ IntsIn w db dof d D) :
    Calls Tryz.prog 45 #[.pointer (some ⟨kb, 0, none⟩), .int .i64 x, .int .i64 jit, .slice ao d dc] w fun e w' => e = .returned (.int .i64 (arrive S m x jit D d).2) ∧ ∃ Y', KMoved kb S m (arrive S m x jit D d).1 Y Y' w w' := by
  have c0 : w.cell? ⟨kb, 0, none⟩ = some (.int .i32 0) := by rw [h.krow.cell (by omega)]; rfl
  have c2 : w.cell? ⟨kb, 2, none⟩ = some (.pointer (some ⟨Y.mb, 0, none⟩)) := by rw [h.krow.cell (by omega)]; rfl
  have z0 := h.krow.frozen 0
  have HK : Hid (KAt w kb S m Y) := h
  have HD2 : Hid (1 ≤ d → ao = some ⟨db, dof, none⟩ ∧ db < (w.setCell ⟨kb, 0, none⟩ (.int .i32 1)).heap.size ∧ IntsIn (w.setCell ⟨kb, 0, none⟩ (.int .i32 1)) db dof d D) := fun h1 => by
    obtain ⟨e, hdb, hi⟩ := hD h1
    have hne : db ≠ kb := fun e => by
      subst e
      have i0 := hi 0 (by omega)
      obtain ⟨c, hc, hcs, hcf⟩ := h.krow
      simp only [World.cell?, hc] at i0
      have i0' : c[dof + 0]? = some (.int .i64 (D 0)) := by simpa using i0
      have hlt : dof + 0 < 3 := by
        have := (Array.getElem?_eq_some_iff.1 i0').1
        omega
      rw [hcf (dof + 0) hlt] at i0'
      unfold kcell at i0'
      split at i0'
      · simp at i0'
      · split at i0'
        · simp at i0'
        · simp at i0'
    exact ⟨e, by simpa using hdb, fun i hq => by
      rw [← hi i hq]
      simp only [World.cell?]
      rw [Deep.blk_setCell_other _ _ _ _ (by simpa using hne)]⟩
  clear h hD
  go_enter_defers Tryz.func45, Tryz.ntmps45
  go_wp2_with (go_at_call 52; refine (lock_free Tryz.muLib ⟨kb, 0, none⟩ _ c0 z0).mono ?_; rintro e w' ⟨rfl, rfl⟩)
  refine (marrive_any S m Y x jit db dof d dc D ao _ HK.out.ok (HK.out.locked _) HK.out.sep har hd HD2.out).mono ?_
  rintro e w2 ⟨rfl, Y', hmv⟩
  obtain ⟨q0, qz, hkm⟩ := unlocked HK.out hmv (ok_arrive HK.out.ok har)
  have HKM : Hid (KMoved kb S m (arrive S m x jit D d).1 Y Y' w (w2.setCell ⟨kb, 0, none⟩ (.int .i32 0))) := hkm
  clear hkm hmv
  go_wp2
  refine leaves_cons (f := 53) (args := #[.pointer (some ⟨kb, 0, none⟩)]) (by simp) (by simp [go_sem]) ?_
  refine (unlock_deferred Tryz.muLib ⟨kb, 0, none⟩ .returning _ q0 qz).mono ?_
  rintro e u' w'' ⟨rfl, rfl, rfl⟩
  exact ⟨_, results_tmp rfl _ _ _, ⟨rfl, Y', HKM.out⟩⟩

end Go.Proofs.YtdabcflpcklfiaaGreat

/- The ceilings are raised. -/
namespace Go.Proofs.YtdabcflpcklfiaaGreat
open Go.RowKit Cad

/-- The machine's cells, with other ceilings. -/
def fc (f : Nat → Value) (c : Nat → Int) (q : Nat) : Value := if 4 ≤ q ∧ q < 12 then .int .i64 (c (q - 4)) else f q

theorem fc_set {wr : World} {mb : Nat} {f : Nat → Value} {c : Nat → Int} (hm : wr.rowIs mb 142 22 (fc f c)) {r : Nat} (hr : r < 8) (x : Int) : (wr.setCell ⟨mb, 4 + r, none⟩ (.int .i64 x)).rowIs mb 142 22 (fc f (upd c r x)) :=
  (hm.set (4 + r) (.int .i64 x)).congr (fun q hq => by
    show (if q = 4 + r then Value.int .i64 x else fc f c q) = _
    unfold fc upd
    by_cases e : q = 4 + r
    · rw [if_pos e, if_pos (by omega), if_pos (by omega)]
    · rw [if_neg e]
      by_cases d : 4 ≤ q ∧ q < 12
      · rw [if_pos d, if_pos d, if_neg (by omega)]
      · rw [if_neg d, if_neg d])

theorem fc_cell {wr : World} {mb : Nat} {f : Nat → Value} {c : Nat → Int} (hm : wr.rowIs mb 142 22 (fc f c)) {r : Nat} (hr : r < 8) : wr.cell? ⟨mb, 4 + r, none⟩ = some (.int .i64 (c r)) := by
  rw [hm.cell (by omega)]
  unfold fc
  rw [if_pos (by omega), show 4 + r - 4 = r from by omega]

theorem max_ifX (a b : Int) : (if a < b then b else a) = max a b := by
  by_cases h : a < b
  · rw [if_pos h, Int.max_eq_right (by omega)]
  · rw [if_neg h, Int.max_eq_left (by omega)]

set_option maxRecDepth 100000 in
set_option maxHeartbeats 2000000 in
theorem raise_any (mb g off L cap : Nat) (K N c : Nat → Int) (z : Int) (f : Nat → Value) (w : World) (hL : L ≤ 16) (hg : g < w.heap.size) (hne : g ≠ mb) (hm : w.rowIs mb 142 22 (fc f c)) (hs : StepsIn w g off K N L) (hN : ∀ i, i < L → K i = 2 → 0 ≤ N i ∧ N i ≤ 7) :
    Calls Tryz.prog 72 #[.pointer (some ⟨mb, 0, none⟩), .slice (some ⟨g, off, none⟩) L cap, .int .i64 z] w fun e w' => e = .returned (.tuple #[]) ∧ w'.rowIs mb 142 22 (fc f (ceilK K N z c L)) ∧ Fr (fun i => i = mb) w w' := by
  have HS : Hid (StepsIn w g off K N L) := hs
  have HN : Hid (∀ i, i < L → K i = 2 → 0 ≤ N i ∧ N i ≤ 7) := hN
  have HM : Hid (w.rowIs mb 142 22 (fc f c)) := hm
  have hml := hm.lt
  clear hs hN hm
  go_enter Tryz.func72, Tryz.ntmps72
  go_wp2
  go_loopw [10] (fun i wr => ∃ k : Nat, k ≤ L ∧ i = .int .i64 k ∧ wr.rowIs mb 142 22 (fc f (ceilK K N z c k)) ∧ Fr (fun i => i = mb) w wr) (fun i _ => L - (intOf i).toNat)
  case atStart => exact ⟨0, Nat.zero_le _, rfl, HM.out, Fr.refl _ _⟩
  case round =>
    obtain ⟨k, hk, rfl, hrow, hfr⟩ := hrel
    have hsz := hfr.size
    have hrl := hrow.lt
    have HR : Hid (wr.rowIs mb 142 22 (fc f (ceilK K N z c k))) := hrow
    have HF : Hid (Fr (fun i => i = mb) w wr) := hfr
    by_cases hlt : k < L
    · have y0 := (hfr.cell (i := off + k * 2) hg hne).trans (HS.out k hlt).1
      have y1 := (hfr.cell (i := off + k * 2 + 1) hg hne).trans (HS.out k hlt).2
      have hgw : g < wr.heap.size := by omega
      by_cases h2 : K k = 2
      · obtain ⟨r, hr8, hr⟩ : ∃ r : Nat, r < 8 ∧ N k = (r : Int) := by
          have := HN.out k hlt h2
          exact ⟨(N k).toNat, by omega, by omega⟩
        have hb : (K k == 2) = true := by simpa using h2
        have x := fc_cell hrow hr8
        have zf := hrow.frozen (4 + r)
        have hr8' : (r : Int) < 8 := by omega
        rw [hr] at y1
        have HE : Hid (ceilK K N z c (k + 1) = upd (ceilK K N z c k) r (max (ceilK K N z c k r) z)) := by
          unfold Hid
          rw [ceilK, if_pos h2, hr]
          rfl
        clear hrow hfr
        go_wp2_with fail
        go_region
        all_goals
          go_wp2_with fail
          go_roundw
          case rel =>
            refine ⟨k + 1, by omega, by go_num, ?_, ?_⟩
            · rw [HE.out, max_ifX]
              exact ((fc_set HR.out hr8 _).alloc _).drew
            · exact ((HF.out.setCell (a := ⟨mb, 4 + r, none⟩) (.inl rfl) _).alloc _).drew
          case measure => simp [intOf]; omega
      · have hb : (K k == 2) = false := by simpa using h2
        have HE : Hid (ceilK K N z c (k + 1) = ceilK K N z c k) := by
          unfold Hid
          rw [ceilK, if_neg h2]
        clear hrow hfr
        go_wp2
        go_roundw
        case rel => exact ⟨k + 1, by omega, by go_num, by rw [HE.out]; exact HR.out.alloc _, HF.out.alloc _⟩
        case measure => simp [intOf]; omega
    · obtain rfl : k = L := by omega
      go_wp2
      go_end0
      exact ⟨rfl, HR.out, HF.out⟩
end Go.Proofs.YtdabcflpcklfiaaGreat

namespace Go.Proofs.YtdabcflpcklfiaaGreat
open Go.RowKit

theorem ret_bool {a b : Bool} (h : a = b) : Ending.returned (.bool a) = .returned (.bool b) := by rw [h]
theorem ret_int {a b : Int} (h : a = b) : Ending.returned (.int .i64 a) = .returned (.int .i64 b) := by rw [h]

set_option maxHeartbeats 400000 in
theorem within_any (x a b : Int) (w : World) :
    Calls Tryz.prog 100 #[.int .i64 x, .int .i64 a, .int .i64 b] w fun e w' => e = .returned (.bool (decide (a ≤ x ∧ x ≤ b))) ∧ w' = w := by
  by_cases h1 : a ≤ x
  · by_cases h2 : x ≤ b
    · go_enter Tryz.func100, Tryz.ntmps100
      go_wp2
      go_ret
      exact ⟨ret_bool (by simp [h1, h2]), rfl⟩
    · go_enter Tryz.func100, Tryz.ntmps100
      go_wp2
      go_ret
      exact ⟨ret_bool (by simp; omega), rfl⟩
  · go_enter Tryz.func100, Tryz.ntmps100
    go_wp2
    go_ret
    exact ⟨ret_bool (by simp; omega), rfl⟩

set_option maxHeartbeats 400000 in
theorem has_any (b off len cap : Nat) (Z : Nat → Int) (n : Int) (w : World) (hm : len ≤ 9223372036854775807)
    (hc : ∀ i, i < len → w.cell? ⟨b, off + i, none⟩ = some (.int .i64 (Z i))) :
    Calls Tryz.prog 76 #[.slice (some ⟨b, off, none⟩) len cap, .int .i64 n] w fun e w' => e = .returned (.bool (Cad.hasB Z len n)) ∧ w' = w := by
  go_enter Tryz.func76, Tryz.ntmps76
  go_wp2
  go_loop [5] (fun i => ∃ k : Nat, k ≤ len ∧ i = .int .i64 k ∧ ∀ j, j < k → Z j ≠ n) (fun i => len - (intOf i).toNat)
  case atStart => exact ⟨0, Nat.zero_le _, rfl, fun j hj => by omega⟩
  case round =>
    obtain ⟨k, hk, rfl, hn⟩ := hrel
    have HN : Hid (∀ j, j < k → Z j ≠ n) := hn
    clear hn
    by_cases hlt : k < len
    · have hcell := hc k hlt
      go_wp2
      · have h : (Z k == n) = true := by assumption
        go_ret
        exact ⟨ret_bool (Cad.hasB_yes hlt h).symm, rfl⟩
      · have h : (Z k == n) = false := by assumption
        go_round
        case rel => exact ⟨k + 1, by omega, by go_num, fun j hj => by
          by_cases e : j = k
          · subst e; simpa using h
          · exact HN.out j (by omega)⟩
        case measure => simp [intOf]; omega
    · go_wp2
      go_ret
      obtain rfl : k = len := by omega
      exact ⟨ret_bool (Cad.hasB_no HN.out).symm, rfl⟩

set_option maxHeartbeats 400000 in
theorem has_none (ao : Option Addr) (cap : Nat) (n : Int) (w : World) :
    Calls Tryz.prog 76 #[.slice ao 0 cap, .int .i64 n] w fun e w' => e = .returned (.bool false) ∧ w' = w := by
  go_enter Tryz.func76, Tryz.ntmps76
  go_wp2
  refine wp_loop_rounds 1 ?_
  rw [rounds_succ]
  go_wp2
  go_ret
  exact ⟨rfl, rfl⟩

set_option maxHeartbeats 400000 in
theorem index_any (b off len cap : Nat) (Z : Nat → Int) (n : Int) (w : World) (hm : len ≤ 9223372036854775807)
    (hc : ∀ i, i < len → w.cell? ⟨b, off + i, none⟩ = some (.int .i64 (Z i))) :
    Calls Tryz.prog 152 #[.slice (some ⟨b, off, none⟩) len cap, .int .i64 n] w fun e w' => ∃ r : Int, e = .returned (.int .i64 r) ∧ decide (r ≥ 0) = Cad.hasB Z len n ∧ w' = w := by
  go_enter Tryz.func152, Tryz.ntmps152
  go_wp2
  go_loop [8] (fun i => ∃ k : Nat, k ≤ len ∧ i = .int .i64 k ∧ ∀ j, j < k → Z j ≠ n) (fun i => len - (intOf i).toNat)
  case atStart => exact ⟨0, Nat.zero_le _, rfl, fun j hj => by omega⟩
  case round =>
    obtain ⟨k, hk, rfl, hn⟩ := hrel
    have HN : Hid (∀ j, j < k → Z j ≠ n) := hn
    clear hn
    by_cases hlt : k < len
    · have hcell := hc k hlt
      go_wp2
      · have h : (n == Z k) = true := by assumption
        go_ret
        exact ⟨k, rfl, by rw [Cad.hasB_yes hlt (by simp at h; simp [h])]; simp, rfl⟩
      · have h : (n == Z k) = false := by assumption
        go_round
        case rel => exact ⟨k + 1, by omega, by go_num, fun j hj => by
          by_cases e : j = k
          · subst e; simp at h; exact fun e => h e.symm
          · exact HN.out j (by omega)⟩
        case measure => simp [intOf]; omega
    · go_wp2
      go_ret
      obtain rfl : k = len := by omega
      exact ⟨-1, rfl, by rw [Cad.hasB_no HN.out]; simp, rfl⟩

set_option maxHeartbeats 400000 in
theorem contains_any (b off len cap : Nat) (Z : Nat → Int) (n : Int) (w : World) (hm : len ≤ 9223372036854775807)
    (hc : ∀ i, i < len → w.cell? ⟨b, off + i, none⟩ = some (.int .i64 (Z i))) :
    Calls Tryz.prog 146 #[.slice (some ⟨b, off, none⟩) len cap, .int .i64 n] w fun e w' => e = .returned (.bool (Cad.hasB Z len n)) ∧ w' = w := by
  go_enter Tryz.func146, Tryz.ntmps146
  go_wp2_with fail
  refine (index_any b off len cap Z n _ hm hc).mono ?_
  rintro e w' ⟨r, rfl, hr, rfl⟩
  have HR : Hid (decide (r ≥ 0) = Cad.hasB Z len n) := hr
  clear hr hc
  go_wp2
  go_ret
  exact ⟨ret_bool HR.out, rfl⟩

theorem below_alloc1 (w : World) (o : Obj) : Below w.heap.size w (w.alloc o) := (Below.refl _ _).alloc (Nat.le_refl _) _

set_option maxHeartbeats 400000 in
theorem times_any (p d j : Int) (v : Value) (w : World) :
    Calls Tryz.prog 125 #[.agg #[.int .i64 p, .int .i64 d, .int .i64 j, v]] w fun e w' => e = .returned (.bool (Cad.timesB p d j)) ∧ Below w.heap.size w w' := by
  by_cases h1 : 1 ≤ p ∧ p ≤ 10000
  · by_cases h2 : 1 ≤ d ∧ d ≤ p
    · go_enter Tryz.func125, Tryz.ntmps125
      go_wp2_with (go_at_call 100; refine (within_any _ _ _ _).mono ?_; rintro e w' ⟨rfl, rfl⟩)
      go_ret
      exact ⟨ret_bool (by rw [Bool.eq_iff_iff]; simp [Cad.timesB]; omega), below_alloc1 _ _⟩
    · go_enter Tryz.func125, Tryz.ntmps125
      go_wp2_with (go_at_call 100; refine (within_any _ _ _ _).mono ?_; rintro e w' ⟨rfl, rfl⟩)
      go_ret
      exact ⟨ret_bool (by simp only [Cad.timesB]; symm; rw [decide_eq_false_iff_not]; omega), below_alloc1 _ _⟩
  · go_enter Tryz.func125, Tryz.ntmps125
    go_wp2_with (go_at_call 100; refine (within_any _ _ _ _).mono ?_; rintro e w' ⟨rfl, rfl⟩)
    go_ret
    exact ⟨ret_bool (by simp only [Cad.timesB]; symm; rw [decide_eq_false_iff_not]; omega), below_alloc1 _ _⟩

end Go.Proofs.YtdabcflpcklfiaaGreat
