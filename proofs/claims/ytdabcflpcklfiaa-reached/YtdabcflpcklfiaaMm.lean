import Derived.Test.YtdabcflpcklfiaaMe
import Derived.Test.YtdabcflpcklfiaaMc
/- A machine in memory behind a tick. -/
namespace Go.Proofs.Ytdabcflpcklfiaa
open Go.RowKit Cad

theorem own_neM {w : World} {base e size : Nat} {v : Value} {n : Nat} {xs : List Value} {b t m : Nat} {f : Nat → Value} (h : w.ownsRow base e size v n xs) (hr : w.rowIs b t m f) (hne : t ≠ e) : v.ownBlock ≠ some b := by
  obtain ⟨_, ⟨rfl, _⟩ | ⟨g, cap, cur, rfl, _, hb, _⟩⟩ := h
  · simp [Value.ownBlock]
  · intro e1
    simp [Value.ownBlock] at e1
    subst e1
    obtain ⟨c, hc, _⟩ := hr
    rw [hc] at hb
    simp at hb
    exact hne hb.2

/-- Only the machine's own cells have turned. -/
theorem MAt.setM {w w' : World} {S : Sy} {m m' : Mc} {Y : Lay} (h : MAt w S m Y) (hfr : Fr (fun i => i = Y.mb) w w') (hm : w'.rowIs Y.mb 135 22 (mcell S m' Y)) (hq : m'.q = m.q) (hd : m'.done = m.done) (hl : m'.last = m.last) (hk : m'.kept = m.kept) (ha : m'.arrd = m.arrd) : MAt w' S m' Y := by
  have htm : Y.tb ≠ Y.mb := row_ne h.trow h.mrow (by decide)
  refine ⟨hm, ?_, fun t ht => ?_, ?_, fun t ht i j hj => ?_, ?_⟩
  · refine (hfr.row h.trow htm).congr (fun q _ => ?_)
    unfold tcell taskC
    rw [hq, hd, hl]
  · obtain ⟨f, hf⟩ := (h.prow t ht).row
    exact (h.prow t ht).of_block (hfr.block _ (h.prow t ht).lt (row_ne hf h.mrow (by decide)))
  · rw [ha]
    refine (h.jmap.of_block (hfr.block _ h.jmap.lt (h.jmap.ne h.mrow))).congr (fun t i => ?_)
    unfold live
    rw [hq, hd]
  · rw [hq] at hj
    rw [hd]
    obtain ⟨h1, h2⟩ := h.jrow t ht i j hj
    obtain ⟨f, hf⟩ := h2.row
    exact ⟨hfr.row h1 (row_ne h1 h.mrow (by decide)), h2.of_block (hfr.block _ h2.lt (row_ne hf h.mrow (by decide)))⟩
  · rw [hk]
    exact ownsRow_of_block h.kept (fun b hb => hfr.block b (h.kept.lt b hb).2 (fun e => own_neM h.kept h.mrow (by decide) (by rw [hb, e])))

theorem head_live {S : Sy} {m : Mc} {t : Nat} {j : Jb} {r : List Jb} (ht : t < S.n) (hq : m.q t = j :: r) : isLive S m t (m.done t) := ⟨ht, Nat.le_refl _, by rw [hq]; simp⟩

/-- What 'run' is handed. -/
theorem MAt.runInv {w : World} {S : Sy} {m : Mc} {Y : Lay} (h : MAt w S m Y) {t : Nat} {j : Jb} {r : List Jb} (ht : t < S.n) (hq : m.q t = j :: r) :
    RunInv w w Y.mb (Y.jb t (m.done t)) (Y.rb t (m.done t)) (Y.rc t (m.done t)) (S.L t) t (mcell S m Y) (S.K t) j (restV (Y.rb t (m.done t)) (Y.rc t (m.done t)) (S.L t) j.p) m.hold := by
  obtain ⟨h1, h2⟩ := h.jrow t ht 0 j (by rw [hq]; rfl)
  rw [Nat.add_zero] at h1 h2
  refine ⟨h.mrow.congr (fun q hq => ?_), h1, h2, Fr.refl _ _⟩
  unfold mh
  by_cases c : 12 ≤ q ∧ q < 20
  · rw [if_pos c]
    unfold mcell
    rw [if_neg (by omega), if_neg (by omega), if_neg (by omega), if_neg (by omega), if_neg (by omega), if_pos c.2]
  · rw [if_neg c]

theorem mcell_hold (S : Sy) (m m' : Mc) (Y : Lay) (hn : m'.now = m.now) (hi : m'.idle = m.idle) (ha : m'.arrd = m.arrd) (q : Nat) (hq : q < 22) : mh (mcell S m Y) m'.hold q = mcell S m' Y q := by
  unfold mh
  by_cases c : 12 ≤ q ∧ q < 20
  · rw [if_pos c]
    unfold mcell
    rw [if_neg (by omega), if_neg (by omega), if_neg (by omega), if_neg (by omega), if_neg (by omega), if_pos c.2]
  · rw [if_neg c]
    unfold mcell
    rw [hn, hi, ha]
    by_cases c2 : q < 12
    · simp only [c2, if_true]
    · have : ¬ q < 20 := by omega
      simp only [c2, this, if_false]

/-- The job goes on. -/
theorem MAt.goesOn {w w' : World} {S : Sy} {m : Mc} {Y : Lay} (h : MAt w S m Y) (hs : Sep S m Y) {t : Nat} {j j' : Jb} {r : List Jb} {h' : Nat → Int} (ht : t < S.n) (hq : m.q t = j :: r) (hp : j'.p < S.L t) {v : Value}
    (hv : RestAt (Y.rb t (m.done t)) (Y.rc t (m.done t)) (S.L t) j'.p v) (hi : RunInv w w' Y.mb (Y.jb t (m.done t)) (Y.rb t (m.done t)) (Y.rc t (m.done t)) (S.L t) t (mcell S m Y) (S.K t) j' v h') :
    MAt w' S { m with hold := h', q := upd m.q t (j' :: r) } Y := by
  have hl := head_live (S := S) ht hq
  obtain ⟨a1, a2⟩ := h.jrow t ht 0 j (by rw [hq]; rfl)
  rw [Nat.add_zero] at a1 a2
  obtain ⟨fr, har⟩ := a2.row
  have hlen : ∀ t', (upd m.q t (j' :: r) t').length = (m.q t').length := fun t' => by
    by_cases e : t' = t
    · rw [e, upd_same, hq]; simp
    · rw [upd_other _ _ e]
  have hblk : ∀ b, b < w.heap.size → b ≠ Y.mb → b ≠ Y.jb t (m.done t) → b ≠ Y.rb t (m.done t) → w'.heap[b]? = w.heap[b]? := fun b hb h1 h2 h3 => hi.fr.block b hb (fun hx => by rcases hx with rfl | rfl | rfl; exact h1 rfl; exact h2 rfl; exact h3 rfl)
  refine ⟨hi.mrow.congr (fun q hq => mcell_hold S m { m with hold := h', q := upd m.q t (j' :: r) } Y rfl rfl rfl q hq), ?_, fun t' ht' => ?_, ?_, fun t' ht' i jj hj => ?_, ?_⟩
  · refine (h.trow.of_block (hblk _ h.trow.lt (row_ne h.trow h.mrow (by decide)) (row_ne h.trow a1 (by decide)) (row_ne h.trow har (by decide)))).congr (fun q _ => ?_)
    unfold tcell taskC
    simp only [hlen]
  · obtain ⟨f, hf⟩ := (h.prow t' ht').row
    exact (h.prow t' ht').of_block (hblk _ (h.prow t' ht').lt (row_ne hf h.mrow (by decide)) (row_ne hf a1 (by decide)) (fun e => hs.progs t _ t' hl ht' e.symm))
  · refine (h.jmap.of_block (hblk _ h.jmap.lt (h.jmap.ne h.mrow) (h.jmap.ne a1) (h.jmap.ne har))).congr (fun t' i => ?_)
    unfold live
    simp only [hlen]
  · show w'.rowIs (Y.jb t' (m.done t' + i)) _ _ _ ∧ StepRow w' (Y.rb t' (m.done t' + i)) _ _ _ _
    by_cases e : t' = t ∧ i = 0
    · obtain ⟨rfl, rfl⟩ := e
      have : upd m.q t' (j' :: r) t' = j' :: r := upd_same _ _ _
      have hjj : j' = jj := by
        have hj' : (upd m.q t' (j' :: r) t')[0]? = some jj := hj
        rw [this] at hj'
        simpa using hj'
      subst hjj
      rw [Nat.add_zero]
      rw [hv.1 hp] at hi
      exact ⟨hi.jrow, hi.srow⟩
    · have hj' : (m.q t')[i]? = some jj := by
        have hj2 : (upd m.q t (j' :: r) t')[i]? = some jj := hj
        by_cases e1 : t' = t
        · subst e1
          rw [upd_same] at hj2
          rw [hq]
          match i, (fun h0 : i = 0 => e ⟨rfl, h0⟩), hj2 with
          | 0, h0, _ => exact absurd rfl h0
          | i + 1, _, hj2 => simpa using hj2
        · rw [upd_other _ _ e1] at hj2; exact hj2
      obtain ⟨b1, b2⟩ := h.jrow t' ht' i jj hj'
      have hl' := live_of_get (S := S) ht' hj'
      obtain ⟨f, hf⟩ := b2.row
      have hne : ¬ (t' = t ∧ m.done t' + i = m.done t) := fun h => e ⟨h.1, by have := h.2; rw [h.1] at this; omega⟩
      exact ⟨b1.of_block (hblk _ b1.lt (row_ne b1 h.mrow (by decide)) (fun e => hne (hs.jobs _ _ _ _ hl' hl e)) (row_ne b1 har (by decide))), b2.of_block (hblk _ b2.lt (row_ne hf h.mrow (by decide)) (row_ne hf a1 (by decide)) (fun e => hne (hs.rests _ _ _ _ hl' hl e)))⟩
  · exact ownsRow_of_block h.kept (fun b hb => hblk b (h.kept.lt b hb).2 (fun e => own_neM h.kept h.mrow (by decide) (by rw [hb, e])) (fun e => own_neM h.kept a1 (by decide) (by rw [hb, e])) (fun e => own_neM h.kept har (by decide) (by rw [hb, e])))

end Go.Proofs.Ytdabcflpcklfiaa
