import Derived.Test.YtdabcflpcklfiaaMd
import Derived.Test.YtdabcflpcklfiaaMh
import Derived.Test.YtdabcflpcklfiaaMl
import Derived.Test.YtdabcflpcklfiaaMn
import Derived.Test.YtdabcflpcklfiaaMach2
/- A tick of the machine. -/
namespace Go.Proofs.Ytdabcflpcklfiaa
open Go.RowKit Cad

/-- From one state of a machine in memory to another. -/
structure Moved (S : Sy) (m m' : Mc) (Y Y' : Lay) (w w' : World) : Prop where
  mat : MAt w' S m' Y'
  sep : Sep S m' Y'
  fr : Fr (foot S m Y) w w'
  foot : ∀ b, foot S m' Y' b → foot S m Y b ∨ w.heap.size ≤ b
  mb : Y'.mb = Y.mb

theorem now_cells {w : World} {S : Sy} {m : Mc} {Y : Lay} (h : MAt w S m Y) (x : Int) : MAt (w.setCell ⟨Y.mb, 0, none⟩ (.int .i64 x)) S { m with now := x } Y := by
  refine h.setM ((Fr.refl (fun i => i = Y.mb) w).setCell (a := ⟨Y.mb, 0, none⟩) (.inl rfl) _) ((h.mrow.set 0 (.int .i64 x)).congr (fun q _ => ?_)) rfl rfl rfl rfl rfl
  by_cases e : q = 0
  · rw [if_pos e, e]; rfl
  · rw [if_neg e]; unfold mcell; simp only [e, if_false]

theorem idle_cells {w : World} {S : Sy} {m : Mc} {Y : Lay} (h : MAt w S m Y) (x : Int) : MAt (w.setCell ⟨Y.mb, 1, none⟩ (.int .i64 x)) S { m with idle := x } Y := by
  refine h.setM ((Fr.refl (fun i => i = Y.mb) w).setCell (a := ⟨Y.mb, 1, none⟩) (.inl rfl) _) ((h.mrow.set 1 (.int .i64 x)).congr (fun q _ => ?_)) rfl rfl rfl rfl rfl
  by_cases e : q = 1
  · rw [if_pos e, e]; rfl
  · rw [if_neg e]; unfold mcell; simp only [e, if_false]

theorem Sep.fewer {S : Sy} {m m' : Mc} {Y Y' : Lay} (h : Sep S m Y) (hl : ∀ t i, isLive S m' t i → isLive S m t i) (h1 : Y'.jb = Y.jb) (h2 : Y'.rb = Y.rb) (h3 : Y'.pb = Y.pb) : Sep S m' Y' :=
  ⟨fun t i t' i' a b e => h.jobs t i t' i' (hl _ _ a) (hl _ _ b) (by rw [h1] at e; exact e), fun t i t' i' a b e => h.rests t i t' i' (hl _ _ a) (hl _ _ b) (by rw [h2] at e; exact e), fun t i t' a b => by rw [h2, h3]; exact h.progs t i t' (hl _ _ a) b⟩

theorem ret_pair {a b : Int} {c d : Bool} (h1 : a = b) (h2 : c = d) : Ending.returned (.tuple #[.int .i64 a, .bool c]) = .returned (.tuple #[.int .i64 b, .bool d]) := by rw [h1, h2]

set_option maxRecDepth 100000 in
set_option maxHeartbeats 2000000 in
theorem mtick_idle (S : Sy) (m : Mc) (Y : Lay) (w : World) (ho : Ok S m) (h : MAt w S m Y) (hs : Sep S m Y) (hnow : m.now < 1000000000000000000) (hc : (chTo S m S.n).1 = -1) :
    Calls Try.prog 54 #[.pointer (some ⟨Y.mb, 0, none⟩)] w fun e w' => e = .returned (.tuple #[.int .i64 (-1), .bool false]) ∧ Moved S m { m with now := m.now + 1, idle := m.idle + 1 } Y Y w w' := by
  have HC : Hid (Calls Try.prog 75 #[.pointer (some ⟨Y.mb, 0, none⟩)] w fun e w' => e = .returned (.int .i64 (-1)) ∧ Below w.heap.size w w') := by
    unfold Hid
    have := chosen_any S m Y w ho h
    rw [hc] at this
    exact this
  have HM : Hid (MAt w S m Y) := h
  have HS : Hid (Sep S m Y) := hs
  have n0 := ho.now0
  have i0 := ho.idle
  clear h hs ho hc
  go_enter Try.func54, Try.ntmps54
  go_wp2_with fail
  refine (HC.out).mono ?_
  rintro e w1 ⟨rfl, hb1⟩
  have hm1 := HM.out.below hb1
  have HM1 : Hid (MAt w1 S m Y) := hm1
  have HB1 : Hid (Below w.heap.size w w1) := hb1
  have c0 := hm1.mc.1
  have c1 : w1.cell? ⟨Y.mb, 1, none⟩ = some (.int .i64 m.idle) := by rw [hm1.mrow.cell (by omega)]; rfl
  have z0 := hm1.mrow.frozen 0
  have z1 := hm1.mrow.frozen 1
  clear hm1 hb1 HC
  go_wp2
  go_ret2
  refine ⟨rfl, ⟨idle_cells (now_cells HM1.out (m.now + 1)) (m.idle + 1), HS.out.fewer (fun _ _ a => a) rfl rfl rfl, ?_, fun b hb => .inl hb, rfl⟩⟩
  exact (((Fr.of_below (foot S m Y) HB1.out)).setCell (.inl (.inl rfl)) _).setCell (.inl (.inl rfl)) _

theorem tickAt_on {S : Sy} {m : Mc} {t : Nat} {j : Jb} {r : List Jb} (hp : (runK (S.K t) (S.L t) t m.hold j).2.p < S.L t) :
    tickAt S m t j r = ({ m with now := m.now + 1, hold := (runK (S.K t) (S.L t) t m.hold j).1, q := upd m.q t ((runK (S.K t) (S.L t) t m.hold j).2 :: r) }, false) := by
  unfold tickAt
  exact if_pos hp
theorem tickAt_off {S : Sy} {m : Mc} {t : Nat} {j : Jb} {r : List Jb} (hp : ¬ (runK (S.K t) (S.L t) t m.hold j).2.p < S.L t) :
    tickAt S m t j r = ({ m with now := m.now + 1, hold := (runK (S.K t) (S.L t) t m.hold j).1, q := upd m.q t r, done := upd m.done t (m.done t + 1), kept := keep m.kept ⟨t, j.arr, j.rel, m.now + 1, (runK (S.K t) (S.L t) t m.hold j).2.left, j.ord⟩ }, true) := by
  unfold tickAt
  exact if_neg hp

theorem live_first' {S : Sy} {m : Mc} {Y : Lay} {t : Nat} {j : Jb} {r : List Jb} (ht : t < S.n) (hq : m.q t = j :: r) : live S m Y t (m.done t) = some (Y.jb t (m.done t)) := by
  rw [live_first ht, hq, if_neg (by simp)]

set_option maxRecDepth 100000 in
set_option maxHeartbeats 2000000 in
theorem mtick_busy (S : Sy) (m : Mc) (Y : Lay) (w : World) (t : Nat) (j : Jb) (r : List Jb) (ho : Ok S m) (h : MAt w S m Y) (hs : Sep S m Y) (hnow : m.now < 1000000000000000000) (ht : t < S.n) (hq : m.q t = j :: r) (hc : (chTo S m S.n).1 = (t : Int)) :
    Calls Try.prog 54 #[.pointer (some ⟨Y.mb, 0, none⟩)] w fun e w' => e = .returned (.tuple #[.int .i64 t, .bool (tickAt S m t j r).2]) ∧ ∃ Y', Moved S m (tickAt S m t j r).1 Y Y' w w' := by
  have HC : Hid (Calls Try.prog 75 #[.pointer (some ⟨Y.mb, 0, none⟩)] w fun e w' => e = .returned (.int .i64 t) ∧ Below w.heap.size w w') := by
    unfold Hid
    have := chosen_any S m Y w ho h
    rw [hc] at this
    exact this
  have HM : Hid (MAt w S m Y) := h
  have HS : Hid (Sep S m Y) := hs
  have HO : Hid (Ok S { m with now := m.now + 1 }) := ho.later hnow
  have HJ : Hid (JbOk (S.K t) (S.L t) j) := (ho.job t ht j (by rw [hq]; simp)).1
  have hlen := ho.len t ht
  have n0 := ho.now0
  have h8 := ho.eight
  have HQ : Hid (m.q t = j :: r) := hq
  have hd : (m.done t : Int) ≤ 2000000000000000000 := by have := ho.many t ht; have := ho.arrd; omega
  have hkn := ho.keptn
  have hlr := HJ.out.left_range hlen.2
  have HRK := runK_ok (K := S.K t) (L := S.L t) (t := t) (h := m.hold) HJ.out
  have HRK' : Hid _ := HRK
  have hbneg : ((t : Int) == -1) = false := by simp
  clear h hs ho hc hq HRK
  go_enter Try.func54, Try.ntmps54
  go_wp2_with fail
  refine (HC.out).mono ?_
  rintro e w1 ⟨rfl, hb1⟩
  have hm1 := HM.out.below hb1
  have HB1 : Hid (Below w.heap.size w w1) := hb1
  have c0 := hm1.mc.1
  have z0 := hm1.mrow.frozen 0
  have HM2 : Hid (MAt (w1.setCell ⟨Y.mb, 0, none⟩ (.int .i64 (m.now + 1))) S { m with now := m.now + 1 } Y) := now_cells hm1 (m.now + 1)
  have HF2 : Hid (Fr (foot S m Y) w (w1.setCell ⟨Y.mb, 0, none⟩ (.int .i64 (m.now + 1)))) := (Fr.of_below (foot S m Y) hb1).setCell (.inl (.inl rfl)) _
  clear hm1 hb1 HC HB1
  go_wp2_with fail
  generalize (w1.setCell ⟨Y.mb, 0, none⟩ (.int .i64 (m.now + 1))) = w2 at *
  refine (first_any S { m with now := m.now + 1 } Y t w2 HO.out ht HM2.out).mono ?_
  rintro e w3 ⟨rfl, hb3⟩
  rw [live_first' (m := { m with now := m.now + 1 }) (Y := Y) ht HQ.out]
  have HM3 : Hid (MAt w3 S { m with now := m.now + 1 } Y) := HM2.out.below hb3
  have HF3 : Hid (Fr (foot S m Y) w w3) := HF2.out.then (Fr.of_below _ hb3)
  clear hb3 HM2 HF2
  unfold jptr
  go_wp2_with fail
  refine (run_any Y.mb (Y.jb t (m.done t)) (Y.rb t (m.done t)) (Y.rc t (m.done t)) (S.L t) t (S.K t) (mcell S { m with now := m.now + 1 } Y) j m.hold w3 hlen.2 (by omega) HJ.out (by omega) (by omega) (HM3.out.runInv (m := { m with now := m.now + 1 }) ht HQ.out)).mono ?_
  rintro e w4 ⟨v, rfl, hrest, hinv⟩
  have HR : Hid (RestAt (Y.rb t (m.done t)) (Y.rc t (m.done t)) (S.L t) (runK (S.K t) (S.L t) t m.hold j).2.p v) := hrest
  have HI : Hid (RunInv w3 w4 Y.mb (Y.jb t (m.done t)) (Y.rb t (m.done t)) (Y.rc t (m.done t)) (S.L t) t (mcell S { m with now := m.now + 1 } Y) (S.K t) (runK (S.K t) (S.L t) t m.hold j).2 v (runK (S.K t) (S.L t) t m.hold j).1) := hinv
  have x6 := (jcell_cells hinv.jrow).2.2
  clear hrest hinv
  by_cases hp : (runK (S.K t) (S.L t) t m.hold j).2.p < S.L t
  · have hv := HR.out.1 hp
    subst hv
    have HE : Hid (tickAt S m t j r = ({ m with now := m.now + 1, hold := (runK (S.K t) (S.L t) t m.hold j).1, q := upd m.q t ((runK (S.K t) (S.L t) t m.hold j).2 :: r) }, false)) := by
      exact tickAt_on hp
    unfold restV at x6
    have hd1 : 1 ≤ S.L t - (runK (S.K t) (S.L t) t m.hold j).2.p := by omega
    have FM : Hid (Moved S m (tickAt S m t j r).1 Y Y w w4) := by
      unfold Hid
      rw [HE.out]
      have hlive : ∀ a i, isLive S { m with now := m.now + 1, hold := (runK (S.K t) (S.L t) t m.hold j).1, q := upd m.q t ((runK (S.K t) (S.L t) t m.hold j).2 :: r) } a i ↔ isLive S m a i := fun a i => by
        unfold isLive
        have : (upd m.q t ((runK (S.K t) (S.L t) t m.hold j).2 :: r) a).length = (m.q a).length := by
          by_cases e : a = t
          · rw [e, upd_same, HQ.out]; simp
          · rw [upd_other _ _ e]
        simp only [this]
      refine ⟨HM3.out.goesOn (m := { m with now := m.now + 1 }) (HS.out.fewer (fun _ _ a => a) rfl rfl rfl) ht HQ.out hp HR.out HI.out, HS.out.fewer (fun a i => (hlive a i).1) rfl rfl rfl, HF3.out.then (HI.out.fr.mono (fun i hx => ?_)), fun b hb => .inl ?_, rfl⟩
      · have hl := head_live (S := S) ht HQ.out
        rcases hx with rfl | rfl | rfl
        · exact .inl rfl
        · exact .inr (.inr (.inr (.inr (.inl ⟨t, _, hl, .inl rfl⟩))))
        · exact .inr (.inr (.inr (.inr (.inl ⟨t, _, hl, .inr rfl⟩))))
      · rcases hb with hb | hb | hb | hb | ⟨a, i, hl, hb⟩ | hb
        · exact .inl hb
        · exact .inr (.inl hb)
        · exact .inr (.inr (.inl hb))
        · exact .inr (.inr (.inr (.inl hb)))
        · exact .inr (.inr (.inr (.inr (.inl ⟨a, i, (hlive a i).1 hl, hb⟩))))
        · exact .inr (.inr (.inr (.inr (.inr hb))))
    clear HR HI
    go_wp2
    go_ret2
    exact ⟨ret_pair rfl (by rw [HE.out]), _, FM.out⟩
  · have hpe : (runK (S.K t) (S.L t) t m.hold j).2.p = S.L t := by have := HRK'.out.1; omega
    obtain ⟨ao, c, hv⟩ := HR.out.2 hpe
    subst hv
    have hl := head_live (S := S) ht HQ.out
    have HFIN : Hid (Calls Try.prog 78 #[.pointer (some ⟨Y.mb, 0, none⟩), .pointer (some ⟨Y.jb t (m.done t), 0, none⟩)] w4 fun e w' => e = .returned (.tuple #[]) ∧ ∃ Y', Moved S m (tickAt S m t j r).1 Y Y' w w') := by
      unfold Hid
      have hm3 := HM3.out
      obtain ⟨a1, a2⟩ := hm3.jrow t ht 0 j (by show (m.q t)[0]? = _; rw [HQ.out]; rfl)
      have a1' : w3.rowIs (Y.jb t (m.done t)) 142 7 _ := a1
      obtain ⟨fa, har⟩ := a2.row
      have har' : w3.rowIs (Y.rb t (m.done t)) 99 _ fa := har
      have hx : ∀ b, b ≠ Y.mb → b ≠ Y.jb t (m.done t) → b ≠ Y.rb t (m.done t) → ¬ (b = Y.mb ∨ b = Y.jb t (m.done t) ∨ b = Y.rb t (m.done t)) := fun b h1 h2 h3 h => by rcases h with h | h | h; exact h1 h; exact h2 h; exact h3 h
      have ht4 := HI.out.fr.row hm3.trow (hx _ (row_ne hm3.trow hm3.mrow (by decide)) (row_ne hm3.trow a1' (by decide)) (row_ne hm3.trow har' (by decide)))
      have hj4 := hm3.jmap.of_block (HI.out.fr.block _ hm3.jmap.lt (hx _ (hm3.jmap.ne hm3.mrow) (hm3.jmap.ne a1') (hm3.jmap.ne har')))
      have hk4 : w4.ownsRow 0 140 6 Y.kv m.kept.length (keptC m.kept) := ownsRow_of_block hm3.kept (fun b hb => HI.out.fr.block b (hm3.kept.lt b hb).2 (hx _ (fun e => own_neM hm3.kept hm3.mrow (by decide) (by rw [hb, e])) (fun e => own_neM hm3.kept a1' (by decide) (by rw [hb, e])) (fun e => own_neM hm3.kept har' (by decide) (by rw [hb, e]))))
      have g5 : tcell S { m with now := m.now + 1 } Y (t * 7 + 5) = .int .i64 (m.done t) := by
        unfold tcell
        rw [show (t * 7 + 5) / 7 = t from by omega, show (t * 7 + 5) % 7 = 5 from by omega]
        rfl
      refine (finish_any Y.mb Y.tb Y.jm (Y.jb t (m.done t)) S.n t (m.done t) m.arrd.toNat (m.now + 1) (mh (mcell S { m with now := m.now + 1 } Y) (runK (S.K t) (S.L t) t m.hold j).1) (tcell S { m with now := m.now + 1 } Y) (runK (S.K t) (S.L t) t m.hold j).2 _ Y.kv (live S { m with now := m.now + 1 } Y) m.kept w4 h8 ht hd hkn HI.out.mrow rfl rfl rfl rfl ht4 g5 HI.out.jrow hj4 hk4).mono ?_
      rintro e w5 ⟨kv', rfl, hfin⟩
      refine ⟨rfl, { Y with kv := kv' }, ?_⟩
      obtain ⟨r1, r2, r3⟩ := MAt.finished (m := { m with now := m.now + 1 }) hm3 (HS.out.fewer (fun _ _ a => a) rfl rfl rfl) ht HQ.out HI.out hfin
      obtain ⟨_, _, _, k4, k5, k6, _⟩ := HRK'.out
      have hlive : ∀ a i, isLive S (tickAt S m t j r).1 a i → isLive S m a i := fun a i ha => by
        rw [tickAt_off hp] at ha
        obtain ⟨b1, b2, b3⟩ := ha
        by_cases e : a = t
        · subst e
          have b2' : m.done a + 1 ≤ i := by have := b2; simpa [upd_same] using this
          have b3' : i < m.done a + 1 + r.length := by have := b3; simpa [upd_same] using this
          exact ⟨b1, by omega, by rw [HQ.out]; simp only [List.length_cons]; omega⟩
        · have b2' : m.done a ≤ i := by have := b2; simpa [upd_other _ _ e] using this
          have b3' : i < m.done a + (m.q a).length := by have := b3; simpa [upd_other _ _ e] using this
          exact ⟨b1, b2', b3'⟩
      refine ⟨?_, HS.out.fewer hlive rfl rfl rfl, HF3.out.then r2, fun b hb => ?_, rfl⟩
      · rw [tickAt_off hp]
        rw [k4, k5, k6] at r1
        exact r1
      · rcases hb with hb | hb | hb | hb | ⟨a, i, hl, hb⟩ | hb
        · exact .inl (.inl hb)
        · exact .inl (.inr (.inl hb))
        · exact .inl (.inr (.inr (.inl hb)))
        · exact .inl (.inr (.inr (.inr (.inl hb))))
        · exact .inl (.inr (.inr (.inr (.inr (.inl ⟨a, i, hlive a i hl, hb⟩)))))
        · rcases r3 with r3 | ⟨c, r3, r4⟩
          · exact .inl (.inr (.inr (.inr (.inr (.inr (by rw [← r3]; exact hb))))))
          · have hb' : kv'.ownBlock = some b := hb
            rw [r4] at hb'
            have : c = b := by simpa using hb'
            have hsz := HF3.out.size
            exact .inr (by omega)
    have HE2 : Hid ((tickAt S m t j r).2 = true) := by unfold Hid; rw [tickAt_off hp]
    clear HR HI
    go_wp2_with fail
    refine (HFIN.out).mono ?_
    rintro e w5 ⟨rfl, Y', hmv⟩
    have HMV : Hid (Moved S m (tickAt S m t j r).1 Y Y' w w5) := hmv
    clear hmv HFIN
    go_wp2
    go_ret2
    exact ⟨ret_pair rfl HE2.out.symm, _, HMV.out⟩

/-- A tick of the machine. -/
theorem mtick_any (S : Sy) (m : Mc) (Y : Lay) (w : World) (ho : Ok S m) (h : MAt w S m Y) (hs : Sep S m Y) (hnow : m.now < 1000000000000000000) :
    Calls Try.prog 54 #[.pointer (some ⟨Y.mb, 0, none⟩)] w fun e w' => e = .returned (.tuple #[.int .i64 (tick S m).2.1, .bool (tick S m).2.2]) ∧ ∃ Y', Moved S m (tick S m).1 Y Y' w w' := by
  rcases tick_cases S m with ⟨hc, e⟩ | ⟨t, j, r, ht, hq, _, hc, e⟩
  · rw [e]
    exact (mtick_idle S m Y w ho h hs hnow hc).mono (fun e w' hh => ⟨hh.1, Y, hh.2⟩)
  · rw [e]
    exact mtick_busy S m Y w t j r ho h hs hnow ht hq hc

end Go.Proofs.Ytdabcflpcklfiaa
