import Derived.Test.YtdabcflpcklfiaaMm
import Derived.Test.YtdabcflpcklfiaaMla
/- A machine in memory behind a tick with which a job is done. -/
namespace Go.Proofs.Ytdabcflpcklfiaa
open Go.RowKit Cad

theorem mput_live {S : Sy} {m m' : Mc} {Y Y' : Lay} {t : Nat} {j : Jb} {r : List Jb} (ht : t < S.n) (hq : m.q t = j :: r) (hY : Y'.jb = Y.jb) (hq' : m'.q = upd m.q t r) (hd' : m'.done = upd m.done t (m.done t + 1)) :
    ∀ a i, mput (live S m Y) t (m.done t) none a i = live S m' Y' a i := by
  intro a i
  unfold mput live
  rw [hY, hq', hd']
  by_cases e : a = t
  · subst e
    rw [upd_same, upd_same, hq]
    simp only [List.length_cons, true_and]
    by_cases e2 : i = m.done a
    · rw [if_pos e2, if_neg (by omega)]
    · rw [if_neg e2]
      by_cases c : a < S.n ∧ m.done a ≤ i ∧ i < m.done a + (r.length + 1)
      · rw [if_pos c, if_pos (by omega)]
      · rw [if_neg c, if_neg (by omega)]
  · rw [upd_other _ _ e, upd_other _ _ e, if_neg (fun h => e h.1)]

/-- The job is done. -/
theorem MAt.finished {w w2 w' : World} {S : Sy} {m : Mc} {Y : Lay} (h : MAt w S m Y) (hs : Sep S m Y) {t : Nat} {j j' : Jb} {r : List Jb} {h' : Nat → Int} (ht : t < S.n) (hq : m.q t = j :: r) {v kv' : Value} {l' : List Rc}
    (hi : RunInv w w2 Y.mb (Y.jb t (m.done t)) (Y.rb t (m.done t)) (Y.rc t (m.done t)) (S.L t) t (mcell S m Y) (S.K t) j' v h')
    (hf : FinInv w2 w' Y.mb Y.tb Y.jm (Y.jb t (m.done t)) S.n t (m.done t) m.arrd.toNat m.now (mh (mcell S m Y) h') (tcell S m Y) j' v Y.kv kv' (live S m Y) l') :
    MAt w' S { m with hold := h', q := upd m.q t r, done := upd m.done t (m.done t + 1), kept := l' } { Y with kv := kv' } ∧
      Fr (foot S m Y) w w' ∧ (kv'.ownBlock = Y.kv.ownBlock ∨ ∃ b, w.heap.size ≤ b ∧ kv'.ownBlock = some b) := by
  have hl := head_live (S := S) ht hq
  obtain ⟨a1, a2⟩ := h.jrow t ht 0 j (by rw [hq]; rfl)
  rw [Nat.add_zero] at a1 a2
  obtain ⟨fr, har⟩ := a2.row
  have hkm := own_neM h.kept h.mrow (by decide)
  have hblk : ∀ b, b < w.heap.size → b ≠ Y.mb → b ≠ Y.tb → b ≠ Y.jm → b ≠ Y.jb t (m.done t) → b ≠ Y.rb t (m.done t) → Y.kv.ownBlock ≠ some b → w'.heap[b]? = w.heap[b]? := fun b hb h1 h2 h3 h4 h5 h6 =>
    (hf.fr.block b (Nat.lt_of_lt_of_le hb hi.fr.size) (fun hx => by rcases hx with rfl | rfl | rfl | rfl | hx; exact h1 rfl; exact h2 rfl; exact h3 rfl; exact h4 rfl; exact h6 hx)).trans
      (hi.fr.block b hb (fun hx => by rcases hx with rfl | rfl | rfl; exact h1 rfl; exact h4 rfl; exact h5 rfl))
  refine ⟨⟨?_, ?_, fun t' ht' => ?_, ?_, fun t' ht' i jj hj => ?_, hf.kept⟩, ?_, ?_⟩
  · refine hf.mrow.congr (fun q hq => ?_)
    by_cases e : q = 21
    · rw [if_pos e, e]; rfl
    · rw [if_neg e, mcell_hold S m { m with hold := h' } Y rfl rfl rfl q hq]
      unfold mcell
      by_cases c : q = 20
      · rw [c]; rfl
      · by_cases c2 : q < 12
        · simp only [c2, if_true]
        · have c3 : q < 20 := by omega
          simp only [c2, c3, if_false, if_true]
  · refine hf.trow.congr (fun q hqq => ?_)
    unfold tcell
    by_cases e : q = t * 7 + 5
    · rw [if_pos e, show q / 7 = t from by omega, show q % 7 = 5 from by omega]
      unfold taskC
      simp only [upd_same]
      rfl
    · rw [if_neg e]
      by_cases e2 : q / 7 = t
      · have e3 : q % 7 ≠ 5 := by omega
        unfold taskC
        simp only [e2, upd_same, hq, e3, if_false, List.length_cons]
        by_cases e4 : q % 7 = 4
        · simp [e4]
          omega
        · simp only [e4, if_false]
      · unfold taskC
        simp only [upd_other _ _ e2]
  · obtain ⟨f, hpf⟩ := (h.prow t' ht').row
    exact (h.prow t' ht').of_block (hblk _ (h.prow t' ht').lt (row_ne hpf h.mrow (by decide)) (row_ne hpf h.trow (by decide)) (fun e => h.jmap.ne hpf e.symm) (row_ne hpf a1 (by decide)) (fun e => hs.progs t _ t' hl ht' e.symm) (own_neM h.kept hpf (by decide)))
  · exact hf.jmap.congr (mput_live ht hq rfl rfl rfl)
  · have hj' : (upd m.q t r t')[i]? = some jj := hj
    show w'.rowIs (Y.jb t' (upd m.done t (m.done t + 1) t' + i)) _ _ _ ∧ StepRow w' (Y.rb t' (upd m.done t (m.done t + 1) t' + i)) _ _ _ _
    obtain ⟨k, hk, hjk, hne⟩ : ∃ k, upd m.done t (m.done t + 1) t' + i = m.done t' + k ∧ (m.q t')[k]? = some jj ∧ ¬ (t' = t ∧ k = 0) := by
      by_cases e : t' = t
      · subst e
        rw [upd_same] at hj'
        exact ⟨i + 1, by rw [upd_same]; omega, by rw [hq]; simpa using hj', by omega⟩
      · rw [upd_other _ _ e] at hj'
        exact ⟨i, by rw [upd_other _ _ e], hj', fun h => e h.1⟩
    rw [hk]
    obtain ⟨b1, b2⟩ := h.jrow t' ht' k jj hjk
    have hl' := live_of_get (S := S) ht' hjk
    obtain ⟨f, hbf⟩ := b2.row
    have hne' : ¬ (t' = t ∧ m.done t' + k = m.done t) := fun h => hne ⟨h.1, by have := h.2; rw [h.1] at this; omega⟩
    exact ⟨b1.of_block (hblk _ b1.lt (row_ne b1 h.mrow (by decide)) (row_ne b1 h.trow (by decide)) (fun e => h.jmap.ne b1 e.symm) (fun e => hne' (hs.jobs _ _ _ _ hl' hl e)) (row_ne b1 har (by decide)) (own_neM h.kept b1 (by decide))),
      b2.of_block (hblk _ b2.lt (row_ne hbf h.mrow (by decide)) (row_ne hbf h.trow (by decide)) (fun e => h.jmap.ne hbf e.symm) (row_ne hbf a1 (by decide)) (fun e => hne' (hs.rests _ _ _ _ hl' hl e)) (own_neM h.kept hbf (by decide)))⟩
  · refine (hi.fr.mono (fun i hx => ?_)).trans hf.fr (fun i hx => ?_)
    · rcases hx with rfl | rfl | rfl
      · exact .inl rfl
      · exact .inr (.inr (.inr (.inr (.inl ⟨t, _, hl, .inl rfl⟩))))
      · exact .inr (.inr (.inr (.inr (.inl ⟨t, _, hl, .inr rfl⟩))))
    · rcases hx with rfl | rfl | rfl | rfl | hx
      · exact .inl (.inl rfl)
      · exact .inl (.inr (.inl rfl))
      · exact .inl (.inr (.inr (.inl rfl)))
      · exact .inl (.inr (.inr (.inr (.inr (.inl ⟨t, _, hl, .inl rfl⟩)))))
      · exact .inl (.inr (.inr (.inr (.inr (.inr hx)))))
  · rcases hf.blk with hb | ⟨b, hb, hb2⟩
    · exact .inl hb
    · exact .inr ⟨b, Nat.le_trans hi.fr.size hb, hb2⟩

end Go.Proofs.Ytdabcflpcklfiaa
