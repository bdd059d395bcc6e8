import Derived.Test.YtdabcflpcklfiaaGreatA02
import Derived.Test.YtdabcflpcklfiaaGreatA01
import Derived.Test.YtdabcflpcklfiaaGreatA03
import Derived.Test.YtdabcflpcklfiaaGreatA04
/- A machine in memory behind a tick. -/
namespace Go.Proofs.YtdabcflpcklfiaaGreat
open Go.RowKit Cad

theorem own_neM {w : World} {base e size : Nat} {v : Value} {n : Nat} {xs : List Value} {b t m : Nat} {f : Nat → Value} (h : w.ownsRow base e size v n xs) (hr : w.rowIs b t m f) (hne : t ≠ e) : v.ownBlock ≠ some b := by
  obtain ⟨_, ⟨rfl, _⟩ | ⟨g, cap, cur, rfl, _, hb, _⟩⟩ := h
  · simp [Value.ownBlock]
  · intro e1
    simp [Value.ownBlock] at e1
    subst e1
    obtain ⟨c, hc, _⟩ := hr
    rw [hc] at hb
    simp at hb
    exact hne hb.2

/-- Only the machine's own cells have turned. -/
theorem MAt.setM {w w' : World} {S : Sy} {m m' : Mc} {Y : Lay} (h : MAt w S m Y) (hfr : Fr (fun i => i = Y.mb) w w') (hm : w'.rowIs Y.mb 142 22 (mcell S m' Y)) (hq : m'.q = m.q) (hd : m'.done = m.done) (hl : m'.last = m.last) (hk : m'.kept = m.kept) (ha : m'.arrd = m.arrd) : MAt w' S m' Y := by
  have htm : Y.tb ≠ Y.mb := row_ne h.trow h.mrow (by decide)
  refine ⟨hm, ?_, fun t ht => ?_, ?_, fun t ht i j hj => ?_, ?_⟩
  · refine (hfr.row h.trow htm).congr (fun q _ => ?_)
    unfold tcell taskC
    rw [hq, hd, hl]
  · obtain ⟨f, hf⟩ := (h.prow t ht).row
    exact (h.prow t ht).of_block (hfr.block _ (h.prow t ht).lt (row_ne hf h.mrow (by decide)))
  · rw [ha]
    refine (h.jmap.of_block (hfr.block _ h.jmap.lt (h.jmap.ne h.mrow))).congr (fun t i => ?_)
    unfold live
    rw [hq, hd]
  · rw [hq] at hj
    rw [hd]
    obtain ⟨h1, h2⟩ := h.jrow t ht i j hj
    obtain ⟨f, hf⟩ := h2.row
    exact ⟨hfr.row h1 (row_ne h1 h.mrow (by decide)), h2.of_block (hfr.block _ h2.lt (row_ne hf h.mrow (by decide)))⟩
  · rw [hk]
    exact ownsRow_of_block h.kept (fun b hb => hfr.block b (h.kept.lt b hb).2 (fun e => own_neM h.kept h.mrow (by decide) (by rw [hb, e])))

theorem head_live {S : Sy} {m : Mc} {t : Nat} {j : Jb} {r : List Jb} (ht : t < S.n) (hq : m.q t = j :: r) : isLive S m t (m.done t) := ⟨ht, Nat.le_refl _, by rw [hq]; simp⟩

/-- What 'run' is handed. -/
theorem MAt.runInv {w : World} {S : Sy} {m : Mc} {Y : Lay} (h : MAt w S m Y) {t : Nat} {j : Jb} {r : List Jb} (ht : t < S.n) (hq : m.q t = j :: r) :
    RunInv w w Y.mb (Y.jb t (m.done t)) (Y.rb t (m.done t)) (Y.rc t (m.done t)) (S.L t) t (mcell S m Y) (S.K t) j (restV (Y.rb t (m.done t)) (Y.rc t (m.done t)) (S.L t) j.p) m.hold := by
  obtain ⟨h1, h2⟩ := h.jrow t ht 0 j (by rw [hq]; rfl)
  rw [Nat.add_zero] at h1 h2
  refine ⟨h.mrow.congr (fun q hq => ?_), h1, h2, Fr.refl _ _⟩
  unfold mh
  by_cases c : 12 ≤ q ∧ q < 20
  · rw [if_pos c]
    unfold mcell
    rw [if_neg (by omega), if_neg (by omega), if_neg (by omega), if_neg (by omega), if_neg (by omega), if_pos c.2]
  · rw [if_neg c]

theorem mcell_hold (S : Sy) (m m' : Mc) (Y : Lay) (hn : m'.now = m.now) (hi : m'.idle = m.idle) (ha : m'.arrd = m.arrd) (q : Nat) (hq : q < 22) : mh (mcell S m Y) m'.hold q = mcell S m' Y q := by
  unfold mh
  by_cases c : 12 ≤ q ∧ q < 20
  · rw [if_pos c]
    unfold mcell
    rw [if_neg (by omega), if_neg (by omega), if_neg (by omega), if_neg (by omega), if_neg (by omega), if_pos c.2]
  · rw [if_neg c]
    unfold mcell
    rw [hn, hi, ha]
    by_cases c2 : q < 12
    · simp only [c2, if_true]
    · have : ¬ q < 20 := by omega
      simp only [c2, this, if_false]

/-- The job goes on. -/
theorem MAt.goesOn {w w' : World} {S : Sy} {m : Mc} {Y : Lay} (h : MAt w S m Y) (hs : Sep S m Y) {t : Nat} {j j' : Jb} {r : List Jb} {h' : Nat → Int} (ht : t < S.n) (hq : m.q t = j :: r) (hp : j'.p < S.L t) {v : Value}
    (hv : RestAt (Y.rb t (m.done t)) (Y.rc t (m.done t)) (S.L t) j'.p v) (hi : RunInv w w' Y.mb (Y.jb t (m.done t)) (Y.rb t (m.done t)) (Y.rc t (m.done t)) (S.L t) t (mcell S m Y) (S.K t) j' v h') :
    MAt w' S { m with hold := h', q := upd m.q t (j' :: r) } Y := by
  have hl := head_live (S := S) ht hq
  obtain ⟨a1, a2⟩ := h.jrow t ht 0 j (by rw [hq]; rfl)
  rw [Nat.add_zero] at a1 a2
  obtain ⟨fr, har⟩ := a2.row
  have hlen : ∀ t', (upd m.q t (j' :: r) t').length = (m.q t').length := fun t' => by
    by_cases e : t' = t
    · rw [e, upd_same, hq]; simp
    · rw [upd_other _ _ e]
  have hblk : ∀ b, b < w.heap.size → b ≠ Y.mb → b ≠ Y.jb t (m.done t) → b ≠ Y.rb t (m.done t) → w'.heap[b]? = w.heap[b]? := fun b hb h1 h2 h3 => hi.fr.block b hb (fun hx => by rcases hx with rfl | rfl | rfl; exact h1 rfl; exact h2 rfl; exact h3 rfl)
  refine ⟨hi.mrow.congr (fun q hq => mcell_hold S m { m with hold := h', q := upd m.q t (j' :: r) } Y rfl rfl rfl q hq), ?_, fun t' ht' => ?_, ?_, fun t' ht' i jj hj => ?_, ?_⟩
  · refine (h.trow.of_block (hblk _ h.trow.lt (row_ne h.trow h.mrow (by decide)) (row_ne h.trow a1 (by decide)) (row_ne h.trow har (by decide)))).congr (fun q _ => ?_)
    unfold tcell taskC
    simp only [hlen]
  · obtain ⟨f, hf⟩ := (h.prow t' ht').row
    exact (h.prow t' ht').of_block (hblk _ (h.prow t' ht').lt (row_ne hf h.mrow (by decide)) (row_ne hf a1 (by decide)) (fun e => hs.progs t _ t' hl ht' e.symm))
  · refine (h.jmap.of_block (hblk _ h.jmap.lt (h.jmap.ne h.mrow) (h.jmap.ne a1) (h.jmap.ne har))).congr (fun t' i => ?_)
    unfold live
    simp only [hlen]
  · show w'.rowIs (Y.jb t' (m.done t' + i)) _ _ _ ∧ StepRow w' (Y.rb t' (m.done t' + i)) _ _ _ _
    by_cases e : t' = t ∧ i = 0
    · obtain ⟨rfl, rfl⟩ := e
      have : upd m.q t' (j' :: r) t' = j' :: r := upd_same _ _ _
      have hjj : j' = jj := by
        have hj' : (upd m.q t' (j' :: r) t')[0]? = some jj := hj
        rw [this] at hj'
        simpa using hj'
      subst hjj
      rw [Nat.add_zero]
      rw [hv.1 hp] at hi
      exact ⟨hi.jrow, hi.srow⟩
    · have hj' : (m.q t')[i]? = some jj := by
        have hj2 : (upd m.q t (j' :: r) t')[i]? = some jj := hj
        by_cases e1 : t' = t
        · subst e1
          rw [upd_same] at hj2
          rw [hq]
          match i, (fun h0 : i = 0 => e ⟨rfl, h0⟩), hj2 with
          | 0, h0, _ => exact absurd rfl h0
          | i + 1, _, hj2 => simpa using hj2
        · rw [upd_other _ _ e1] at hj2; exact hj2
      obtain ⟨b1, b2⟩ := h.jrow t' ht' i jj hj'
      have hl' := live_of_get (S := S) ht' hj'
      obtain ⟨f, hf⟩ := b2.row
      have hne : ¬ (t' = t ∧ m.done t' + i = m.done t) := fun h => e ⟨h.1, by have := h.2; rw [h.1] at this; omega⟩
      exact ⟨b1.of_block (hblk _ b1.lt (row_ne b1 h.mrow (by decide)) (fun e => hne (hs.jobs _ _ _ _ hl' hl e)) (row_ne b1 har (by decide))), b2.of_block (hblk _ b2.lt (row_ne hf h.mrow (by decide)) (row_ne hf a1 (by decide)) (fun e => hne (hs.rests _ _ _ _ hl' hl e)))⟩
  · exact ownsRow_of_block h.kept (fun b hb => hblk b (h.kept.lt b hb).2 (fun e => own_neM h.kept h.mrow (by decide) (by rw [hb, e])) (fun e => own_neM h.kept a1 (by decide) (by rw [hb, e])) (fun e => own_neM h.kept har (by decide) (by rw [hb, e])))

end Go.Proofs.YtdabcflpcklfiaaGreat

/- A machine in memory behind a tick with which a job is done. -/
namespace Go.Proofs.YtdabcflpcklfiaaGreat
open Go.RowKit Cad

theorem mput_live {S : Sy} {m m' : Mc} {Y Y' : Lay} {t : Nat} {j : Jb} {r : List Jb} (ht : t < S.n) (hq : m.q t = j :: r) (hY : Y'.jb = Y.jb) (hq' : m'.q = upd m.q t r) (hd' : m'.done = upd m.done t (m.done t + 1)) :
    ∀ a i, mput (live S m Y) t (m.done t) none a i = live S m' Y' a i := by
  intro a i
  unfold mput live
  rw [hY, hq', hd']
  by_cases e : a = t
  · subst e
    rw [upd_same, upd_same, hq]
    simp only [List.length_cons, true_and]
    by_cases e2 : i = m.done a
    · rw [if_pos e2, if_neg (by omega)]
    · rw [if_neg e2]
      by_cases c : a < S.n ∧ m.done a ≤ i ∧ i < m.done a + (r.length + 1)
      · rw [if_pos c, if_pos (by omega)]
      · rw [if_neg c, if_neg (by omega)]
  · rw [upd_other _ _ e, upd_other _ _ e, if_neg (fun h => e h.1)]

/-- The job is done. -/
theorem MAt.finished {w w2 w' : World} {S : Sy} {m : Mc} {Y : Lay} (h : MAt w S m Y) (hs : Sep S m Y) {t : Nat} {j j' : Jb} {r : List Jb} {h' : Nat → Int} (ht : t < S.n) (hq : m.q t = j :: r) {v kv' : Value} {l' : List Rc}
    (hi : RunInv w w2 Y.mb (Y.jb t (m.done t)) (Y.rb t (m.done t)) (Y.rc t (m.done t)) (S.L t) t (mcell S m Y) (S.K t) j' v h')
    (hf : FinInv w2 w' Y.mb Y.tb Y.jm (Y.jb t (m.done t)) S.n t (m.done t) m.arrd.toNat m.now (mh (mcell S m Y) h') (tcell S m Y) j' v Y.kv kv' (live S m Y) l') :
    MAt w' S { m with hold := h', q := upd m.q t r, done := upd m.done t (m.done t + 1), kept := l' } { Y with kv := kv' } ∧
      Fr (foot S m Y) w w' ∧ (kv'.ownBlock = Y.kv.ownBlock ∨ ∃ b, w.heap.size ≤ b ∧ kv'.ownBlock = some b) := by
  have hl := head_live (S := S) ht hq
  obtain ⟨a1, a2⟩ := h.jrow t ht 0 j (by rw [hq]; rfl)
  rw [Nat.add_zero] at a1 a2
  obtain ⟨fr, har⟩ := a2.row
  have hkm := own_neM h.kept h.mrow (by decide)
  have hblk : ∀ b, b < w.heap.size → b ≠ Y.mb → b ≠ Y.tb → b ≠ Y.jm → b ≠ Y.jb t (m.done t) → b ≠ Y.rb t (m.done t) → Y.kv.ownBlock ≠ some b → w'.heap[b]? = w.heap[b]? := fun b hb h1 h2 h3 h4 h5 h6 =>
    (hf.fr.block b (Nat.lt_of_lt_of_le hb hi.fr.size) (fun hx => by rcases hx with rfl | rfl | rfl | rfl | hx; exact h1 rfl; exact h2 rfl; exact h3 rfl; exact h4 rfl; exact h6 hx)).trans
      (hi.fr.block b hb (fun hx => by rcases hx with rfl | rfl | rfl; exact h1 rfl; exact h4 rfl; exact h5 rfl))
  refine ⟨⟨?_, ?_, fun t' ht' => ?_, ?_, fun t' ht' i jj hj => ?_, hf.kept⟩, ?_, ?_⟩
  · refine hf.mrow.congr (fun q hq => ?_)
    by_cases e : q = 21
    · rw [if_pos e, e]; rfl
    · rw [if_neg e, mcell_hold S m { m with hold := h' } Y rfl rfl rfl q hq]
      unfold mcell
      by_cases c : q = 20
      · rw [c]; rfl
      · by_cases c2 : q < 12
        · simp only [c2, if_true]
        · have c3 : q < 20 := by omega
          simp only [c2, c3, if_false, if_true]
  · refine hf.trow.congr (fun q hqq => ?_)
    unfold tcell
    by_cases e : q = t * 7 + 5
    · rw [if_pos e, show q / 7 = t from by omega, show q % 7 = 5 from by omega]
      unfold taskC
      simp only [upd_same]
      rfl
    · rw [if_neg e]
      by_cases e2 : q / 7 = t
      · have e3 : q % 7 ≠ 5 := by omega
        unfold taskC
        simp only [e2, upd_same, hq, e3, if_false, List.length_cons]
        by_cases e4 : q % 7 = 4
        · simp [e4]
          omega
        · simp only [e4, if_false]
      · unfold taskC
        simp only [upd_other _ _ e2]
  · obtain ⟨f, hpf⟩ := (h.prow t' ht').row
    exact (h.prow t' ht').of_block (hblk _ (h.prow t' ht').lt (row_ne hpf h.mrow (by decide)) (row_ne hpf h.trow (by decide)) (fun e => h.jmap.ne hpf e.symm) (row_ne hpf a1 (by decide)) (fun e => hs.progs t _ t' hl ht' e.symm) (own_neM h.kept hpf (by decide)))
  · exact hf.jmap.congr (mput_live ht hq rfl rfl rfl)
  · have hj' : (upd m.q t r t')[i]? = some jj := hj
    show w'.rowIs (Y.jb t' (upd m.done t (m.done t + 1) t' + i)) _ _ _ ∧ StepRow w' (Y.rb t' (upd m.done t (m.done t + 1) t' + i)) _ _ _ _
    obtain ⟨k, hk, hjk, hne⟩ : ∃ k, upd m.done t (m.done t + 1) t' + i = m.done t' + k ∧ (m.q t')[k]? = some jj ∧ ¬ (t' = t ∧ k = 0) := by
      by_cases e : t' = t
      · subst e
        rw [upd_same] at hj'
        exact ⟨i + 1, by rw [upd_same]; omega, by rw [hq]; simpa using hj', by omega⟩
      · rw [upd_other _ _ e] at hj'
        exact ⟨i, by rw [upd_other _ _ e], hj', fun h => e h.1⟩
    rw [hk]
    obtain ⟨b1, b2⟩ := h.jrow t' ht' k jj hjk
    have hl' := live_of_get (S := S) ht' hjk
    obtain ⟨f, hbf⟩ := b2.row
    have hne' : ¬ (t' = t ∧ m.done t' + k = m.done t) := fun h => hne ⟨h.1, by have := h.2; rw [h.1] at this; omega⟩
    exact ⟨b1.of_block (hblk _ b1.lt (row_ne b1 h.mrow (by decide)) (row_ne b1 h.trow (by decide)) (fun e => h.jmap.ne b1 e.symm) (fun e => hne' (hs.jobs _ _ _ _ hl' hl e)) (row_ne b1 har (by decide)) (own_neM h.kept b1 (by decide))),
      b2.of_block (hblk _ b2.lt (row_ne hbf h.mrow (by decide)) (row_ne hbf h.trow (by decide)) (fun e => h.jmap.ne hbf e.symm) (row_ne hbf a1 (by decide)) (fun e => hne' (hs.rests _ _ _ _ hl' hl e)) (own_neM h.kept hbf (by decide)))⟩
  · refine (hi.fr.mono (fun i hx => ?_)).trans hf.fr (fun i hx => ?_)
    · rcases hx with rfl | rfl | rfl
      · exact .inl rfl
      · exact .inr (.inr (.inr (.inr (.inl ⟨t, _, hl, .inl rfl⟩))))
      · exact .inr (.inr (.inr (.inr (.inl ⟨t, _, hl, .inr rfl⟩))))
    · rcases hx with rfl | rfl | rfl | rfl | hx
      · exact .inl (.inl rfl)
      · exact .inl (.inr (.inl rfl))
      · exact .inl (.inr (.inr (.inl rfl)))
      · exact .inl (.inr (.inr (.inr (.inr (.inl ⟨t, _, hl, .inl rfl⟩)))))
      · exact .inl (.inr (.inr (.inr (.inr (.inr hx)))))
  · rcases hf.blk with hb | ⟨b, hb, hb2⟩
    · exact .inl hb
    · exact .inr ⟨b, Nat.le_trans hi.fr.size hb, hb2⟩

end Go.Proofs.YtdabcflpcklfiaaGreat

/- Plain mathematics: what holds of the machine holds behind a tick, and behind an arrival. -/
namespace Go.Proofs.YtdabcflpcklfiaaGreat.Cad

theorem dem_diff {K N : Nat → Int} {a : Nat} : ∀ d, (∀ i, a ≤ i → i < a + d → K i = 1 → 1 ≤ N i ∧ N i ≤ 100) → 0 ≤ demTo K N (a + d) - demTo K N a ∧ demTo K N (a + d) - demTo K N a ≤ 100 * d
  | 0, _ => by simp
  | d + 1, h => by
    have ih := dem_diff d (fun i h1 h2 => h i h1 (by omega))
    rw [← Nat.add_assoc, demTo]
    have hk := h (a + d) (by omega) (by omega)
    by_cases e : K (a + d) = 1
    · have := hk e
      rw [if_pos e]
      omega
    · rw [if_neg e]
      omega

theorem dem_flat {K N : Nat → Int} {a : Nat} : ∀ d, (∀ i, a ≤ i → i < a + d → K i ≠ 1) → demTo K N (a + d) = demTo K N a
  | 0, _ => rfl
  | d + 1, h => by
    rw [← Nat.add_assoc, demTo, if_neg (h (a + d) (by omega) (by omega)), Int.add_zero, dem_flat d (fun i h1 h2 => h i h1 (by omega))]

theorem dem_upd {K N : Nat → Int} {k : Nat} {x : Int} (hk : K k = 1) : ∀ i, demTo K (upd N k x) i = demTo K N i + (if k < i then x - N k else 0)
  | 0 => by simp [demTo]
  | i + 1 => by
    rw [demTo, demTo, dem_upd hk i]
    by_cases e : i = k
    · subst e
      rw [if_pos hk, if_pos hk, upd_same, if_neg (Nat.lt_irrefl _), if_pos (Nat.lt_succ_self _)]
      omega
    · rw [upd_other _ _ e]
      by_cases c : k < i
      · rw [if_pos c, if_pos (show k < i + 1 by omega)]
        omega
      · rw [if_neg c, if_neg (show ¬ k < i + 1 by omega)]
        omega

theorem JbOk.left_range {K : Nat → Int} {L : Nat} {j : Jb} (h : JbOk K L j) (hL : L ≤ 16) : 0 ≤ j.left ∧ j.left ≤ 1600 := by
  obtain ⟨d, hd⟩ : ∃ d, L = j.p + d := ⟨L - j.p, by have := h.lt; omega⟩
  have := dem_diff (K := K) (N := j.N) (a := j.p) d (fun i h1 h2 => h.comp i h1 (by omega))
  rw [h.left, hd]
  omega

theorem skipLt {K : Nat → Int} {L : Nat} {j : Jb} (h : JbOk K L j) : skip K 2 L j.p < L ∧ K (skip K 2 L j.p) = 1 := by
  obtain ⟨h1, h2, h3, h4⟩ := skip_spec K 2 (L := L) (p := j.p) (by have := h.lt; omega)
  have hlt : skip K 2 L j.p < L := by
    rcases Nat.lt_or_ge (skip K 2 L j.p) L with hl | hl
    · exact hl
    · have := h3 (L - 1) (by have := h.lt; omega) (by have := h.lt; omega)
      rw [h.last] at this
      omega
  refine ⟨hlt, ?_⟩
  rcases h.kind _ hlt with hk | hk | hk
  · exact hk
  · exact absurd hk (h4 hlt)
  · exfalso
    rcases Nat.lt_or_ge j.p (skip K 2 L j.p) with hl | hl
    · obtain ⟨q, hq⟩ : ∃ q, skip K 2 L j.p = q + 1 := ⟨skip K 2 L j.p - 1, by omega⟩
      rw [hq] at hk hlt
      exact h.behind q hlt (h3 q (by omega) (by omega)) hk
    · have e : skip K 2 L j.p = j.p := by omega
      rw [e] at hk
      exact h.here hk

/-- Behind its tick a job is as one must be, or done. -/
theorem runK_ok {K : Nat → Int} {L t : Nat} {h : Nat → Int} {j : Jb} (hj : JbOk K L j) : (runK K L t h j).2.p ≤ L ∧ ((runK K L t h j).2.p < L → JbOk K L (runK K L t h j).2) ∧ ((runK K L t h j).2.p = L → (runK K L t h j).2.left = 0) ∧
    (runK K L t h j).2.arr = j.arr ∧ (runK K L t h j).2.rel = j.rel ∧ (runK K L t h j).2.ord = j.ord ∧ (runK K L t h j).2.left = j.left - 1 := by
  obtain ⟨p1, hp1⟩ : ∃ p1, p1 = skip K 2 L j.p := ⟨_, rfl⟩
  have hsp := skip_spec K 2 (L := L) (p := j.p) (by have := hj.lt; omega)
  have hsl := skipLt hj
  rw [← hp1] at hsp hsl
  have hn := hj.comp p1 hsp.1 hsl.1 hsl.2
  have hflat : demTo K j.N p1 = demTo K j.N j.p := by
    obtain ⟨d, hd⟩ : ∃ d, p1 = j.p + d := ⟨p1 - j.p, by omega⟩
    rw [hd]
    exact dem_flat d (fun i h1 h2 => by rw [hsp.2.2.1 i h1 (by omega)]; decide)
  have hstep : demTo K j.N (p1 + 1) = demTo K j.N p1 + j.N p1 := by rw [demTo, if_pos hsl.2]
  unfold runK
  simp only []
  rw [← hp1]
  by_cases hx : 0 < j.N p1 - 1
  · rw [if_pos hx]
    refine ⟨Nat.le_of_lt hsl.1, fun _ => ⟨hsl.1, hj.last, by show K p1 ≠ 3; omega, hj.kind, fun i h1 h2 h3 => ?_, fun i h1 h2 h3 => ?_, hj.behind, ?_⟩, fun e => by have e' : p1 = L := e; omega, rfl, rfl, rfl, rfl⟩
    · show 1 ≤ upd j.N p1 (j.N p1 - 1) i ∧ upd j.N p1 (j.N p1 - 1) i ≤ 100
      by_cases e : i = p1
      · rw [e, upd_same]; omega
      · rw [upd_other _ _ e]; exact hj.comp i (by have h1' : p1 ≤ i := h1; omega) h2 h3
    · show 0 ≤ upd j.N p1 (j.N p1 - 1) i ∧ upd j.N p1 (j.N p1 - 1) i ≤ 7
      rw [upd_other _ _ (fun e => h3 (by rw [e]; exact hsl.2))]
      exact hj.res i (by have h1' : p1 ≤ i := h1; omega) h2 h3
    · show j.left - 1 = demTo K (upd j.N p1 (j.N p1 - 1)) L - demTo K (upd j.N p1 (j.N p1 - 1)) p1
      rw [dem_upd hsl.2, dem_upd hsl.2, if_pos hsl.1, if_neg (Nat.lt_irrefl _), hflat, hj.left]
      omega
  · rw [if_neg hx]
    obtain ⟨p2, hp2⟩ : ∃ p2, p2 = skip K 3 L (p1 + 1) := ⟨_, rfl⟩
    have hs2 := skip_spec K 3 (L := L) (p := p1 + 1) (by omega)
    rw [← hp2] at hs2 ⊢
    have hflat2 : demTo K j.N p2 = demTo K j.N (p1 + 1) := by
      obtain ⟨d, hd⟩ : ∃ d, p2 = p1 + 1 + d := ⟨p2 - (p1 + 1), by omega⟩
      rw [hd]
      exact dem_flat d (fun i h1 h2 => by rw [hs2.2.2.1 i h1 (by omega)]; decide)
    have hleft : j.left - 1 = demTo K (upd j.N p1 (j.N p1 - 1)) L - demTo K (upd j.N p1 (j.N p1 - 1)) p2 := by
      rw [dem_upd hsl.2, dem_upd hsl.2, if_pos hsl.1, if_pos (by omega), hflat2, hstep, hflat, hj.left]
      omega
    refine ⟨hs2.2.1, fun hlt => ⟨hlt, hj.last, hs2.2.2.2 hlt, hj.kind, fun i h1 h2 h3 => ?_, fun i h1 h2 h3 => ?_, hj.behind, hleft⟩, fun e => ?_, rfl, rfl, rfl, rfl⟩
    · show 1 ≤ upd j.N p1 (j.N p1 - 1) i ∧ upd j.N p1 (j.N p1 - 1) i ≤ 100
      have h1' : p2 ≤ i := h1
      rw [upd_other _ _ (by omega)]; exact hj.comp i (by omega) h2 h3
    · show 0 ≤ upd j.N p1 (j.N p1 - 1) i ∧ upd j.N p1 (j.N p1 - 1) i ≤ 7
      have h1' : p2 ≤ i := h1
      rw [upd_other _ _ (by omega)]; exact hj.res i (by omega) h2 h3
    · have e' : p2 = L := e
      show j.left - 1 = 0
      rw [hleft, e']
      omega

theorem ready_cons {m : Mc} {t : Nat} (h : readyB m t = true) : ∃ j r, m.q t = j :: r ∧ j.rel ≤ m.now := by
  unfold readyB at h
  split at h
  · cases h
  · rename_i j r e
    exact ⟨j, r, e, by simpa using h⟩

/-- How a tick comes out. -/
theorem tick_cases (S : Sy) (m : Mc) : ((chTo S m S.n).1 = -1 ∧ tick S m = ({ m with now := m.now + 1, idle := m.idle + 1 }, -1, false)) ∨
    ∃ t j r, t < S.n ∧ m.q t = j :: r ∧ j.rel ≤ m.now ∧ (chTo S m S.n).1 = (t : Int) ∧ tick S m = ((tickAt S m t j r).1, (t : Int), (tickAt S m t j r).2) := by
  rcases chTo_range S m S.n with ⟨h1, h2⟩ | ⟨t, ht, h1, h2, h3⟩
  · refine .inl ⟨h1, ?_⟩
    unfold tick
    simp only [h1]
    split
    · rfl
    · rw [if_pos (by decide)]
  · obtain ⟨j, r, hq, hr⟩ := ready_cons h2
    refine .inr ⟨t, j, r, ht, hq, hr, h1, ?_⟩
    unfold tick
    simp only [h1, Int.toNat_natCast, hq]
    rw [if_neg (by omega)]

theorem Ok.later {S : Sy} {m : Mc} (h : Ok S m) (hn : m.now < 1000000000000000000) : Ok S { m with now := m.now + 1 } := by
  refine { h with now0 := ?_, now1 := ?_, idle := ?_, lastn := ?_, job := ?_ }
  · have := h.now0; show 0 ≤ m.now + 1; omega
  · show m.now + 1 ≤ _; omega
  · have := h.idle; show 0 ≤ m.idle ∧ m.idle ≤ m.now + 1; omega
  · intro t ht
    have := h.lastn t ht; show 0 ≤ m.last t ∧ m.last t ≤ m.now + 1; omega
  · intro t ht j hj
    obtain ⟨h1, h2, h3, h4, h5, h6, h7⟩ := h.job t ht j hj
    exact ⟨h1, h2, by show j.arr ≤ m.now + 1; omega, h4, by show j.rel ≤ m.now + 1 + 10000; omega, h6, h7⟩

theorem ok_tickAt {S : Sy} {m : Mc} {t : Nat} {j : Jb} {r : List Jb} (h : Ok S m) (hn : m.now < 1000000000000000000) (ht : t < S.n) (hq : m.q t = j :: r) : Ok S (tickAt S m t j r).1 := by
  have hm := h.later hn
  have hj := (h.job t ht j (by rw [hq]; simp)).1
  have hjr := (hm.job t ht j (by show j ∈ m.q t; rw [hq]; simp)).2
  obtain ⟨k1, k2, k3, k4, k5, k6, k7⟩ := runK_ok (t := t) (h := m.hold) hj
  unfold tickAt
  simp only []
  by_cases hp : (runJ S t m.hold j).2.p < S.L t
  · rw [if_pos hp]
    have hlen : ∀ t', (upd m.q t ((runJ S t m.hold j).2 :: r) t').length = (m.q t').length := fun t' => by
      by_cases e : t' = t
      · rw [e, upd_same, hq]; simp
      · rw [upd_other _ _ e]
    refine { hm with few := ?_, many := ?_, job := ?_ }
    · intro t' ht'
      show (upd m.q t _ t').length ≤ 8
      rw [hlen]; exact h.few t' ht'
    · intro t' ht'
      show (m.done t' : Int) + ((upd m.q t _ t').length : Int) ≤ _
      rw [hlen]; exact h.many t' ht'
    · intro t' ht' jj hjj
      have hjj' : jj ∈ upd m.q t ((runJ S t m.hold j).2 :: r) t' := hjj
      by_cases e : t' = t
      · subst e
        rw [upd_same] at hjj'
        rcases List.mem_cons.1 hjj' with rfl | hmem
        · refine ⟨k2 hp, ?_⟩
          show 0 ≤ (runK _ _ _ _ _).2.arr ∧ (runK _ _ _ _ _).2.arr ≤ _ ∧ 0 ≤ (runK _ _ _ _ _).2.rel ∧ (runK _ _ _ _ _).2.rel ≤ _ ∧ 0 ≤ (runK _ _ _ _ _).2.ord ∧ (runK _ _ _ _ _).2.ord < _
          rw [k4, k5, k6]
          exact hjr
        · exact hm.job t' ht' jj (by show jj ∈ m.q t'; rw [hq]; simp [hmem])
      · rw [upd_other _ _ e] at hjj'
        exact hm.job t' ht' jj hjj'
  · rw [if_neg hp]
    have hlen : ∀ t', (upd m.q t r t').length ≤ (m.q t').length := fun t' => by
      by_cases e : t' = t
      · rw [e, upd_same, hq]; simp
      · rw [upd_other _ _ e]; exact Nat.le_refl _
    refine { hm with few := ?_, many := ?_, job := ?_, keptn := ?_ }
    · intro t' ht'
      exact Nat.le_trans (hlen t') (h.few t' ht')
    · intro t' ht'
      show ((upd m.done t (m.done t + 1) t' : Nat) : Int) + ((upd m.q t r t').length : Int) ≤ m.arrd
      have := h.many t' ht'
      by_cases e : t' = t
      · subst e
        rw [upd_same, upd_same]
        rw [hq] at this
        simp only [List.length_cons] at this
        omega
      · rw [upd_other _ _ e, upd_other _ _ e]; exact this
    · intro t' ht' jj hjj
      have hjj' : jj ∈ upd m.q t r t' := hjj
      by_cases e : t' = t
      · subst e
        rw [upd_same] at hjj'
        exact hm.job t' ht' jj (by show jj ∈ m.q t'; rw [hq]; simp [hjj'])
      · rw [upd_other _ _ e] at hjj'
        exact hm.job t' ht' jj hjj'
    · show (keep m.kept _).length ≤ 40
      have := h.keptn
      unfold keep
      split
      · rw [List.length_append, List.length_tail]; simp; omega
      · rw [List.length_append]; simp; omega

theorem ok_tick {S : Sy} {m : Mc} (h : Ok S m) (hn : m.now < 1000000000000000000) : Ok S (tick S m).1 := by
  rcases tick_cases S m with ⟨_, e⟩ | ⟨t, j, r, ht, hq, _, _, e⟩
  · rw [e]
    refine { h.later hn with idle := ?_ }
    have := h.idle
    show 0 ≤ m.idle + 1 ∧ m.idle + 1 ≤ m.now + 1
    omega
  · rw [e]
    exact ok_tickAt h hn ht hq

end Go.Proofs.YtdabcflpcklfiaaGreat.Cad

/- A tick of the machine. -/
namespace Go.Proofs.YtdabcflpcklfiaaGreat
open Go.RowKit Cad

/-- From one state of a machine in memory to another. -/
structure Moved (S : Sy) (m m' : Mc) (Y Y' : Lay) (w w' : World) : Prop where
  mat : MAt w' S m' Y'
  sep : Sep S m' Y'
  fr : Fr (foot S m Y) w w'
  foot : ∀ b, foot S m' Y' b → foot S m Y b ∨ w.heap.size ≤ b
  mb : Y'.mb = Y.mb

theorem now_cells {w : World} {S : Sy} {m : Mc} {Y : Lay} (h : MAt w S m Y) (x : Int) : MAt (w.setCell ⟨Y.mb, 0, none⟩ (.int .i64 x)) S { m with now := x } Y := by
  refine h.setM ((Fr.refl (fun i => i = Y.mb) w).setCell (a := ⟨Y.mb, 0, none⟩) (.inl rfl) _) ((h.mrow.set 0 (.int .i64 x)).congr (fun q _ => ?_)) rfl rfl rfl rfl rfl
  by_cases e : q = 0
  · rw [if_pos e, e]; rfl
  · rw [if_neg e]; unfold mcell; simp only [e, if_false]

theorem idle_cells {w : World} {S : Sy} {m : Mc} {Y : Lay} (h : MAt w S m Y) (x : Int) : MAt (w.setCell ⟨Y.mb, 1, none⟩ (.int .i64 x)) S { m with idle := x } Y := by
  refine h.setM ((Fr.refl (fun i => i = Y.mb) w).setCell (a := ⟨Y.mb, 1, none⟩) (.inl rfl) _) ((h.mrow.set 1 (.int .i64 x)).congr (fun q _ => ?_)) rfl rfl rfl rfl rfl
  by_cases e : q = 1
  · rw [if_pos e, e]; rfl
  · rw [if_neg e]; unfold mcell; simp only [e, if_false]

theorem Sep.fewer {S : Sy} {m m' : Mc} {Y Y' : Lay} (h : Sep S m Y) (hl : ∀ t i, isLive S m' t i → isLive S m t i) (h1 : Y'.jb = Y.jb) (h2 : Y'.rb = Y.rb) (h3 : Y'.pb = Y.pb) : Sep S m' Y' :=
  ⟨fun t i t' i' a b e => h.jobs t i t' i' (hl _ _ a) (hl _ _ b) (by rw [h1] at e; exact e), fun t i t' i' a b e => h.rests t i t' i' (hl _ _ a) (hl _ _ b) (by rw [h2] at e; exact e), fun t i t' a b => by rw [h2, h3]; exact h.progs t i t' (hl _ _ a) b⟩

theorem ret_pair {a b : Int} {c d : Bool} (h1 : a = b) (h2 : c = d) : Ending.returned (.tuple #[.int .i64 a, .bool c]) = .returned (.tuple #[.int .i64 b, .bool d]) := by rw [h1, h2]

set_option maxRecDepth 100000 in
set_option maxHeartbeats 2000000 in
theorem mtick_idle (S : Sy) (m : Mc) (Y : Lay) (w : World) (ho : Ok S m) (h : MAt w S m Y) (hs : Sep S m Y) (hnow : m.now < 1000000000000000000) (hc : (chTo S m S.n).1 = -1) :
    Calls Tryz.prog 54 #[.pointer (some ⟨Y.mb, 0, none⟩)] w fun e w' => e = .returned (.tuple #[.int .i64 (-1), .bool false]) ∧ Moved S m { m with now := m.now + 1, idle := m.idle + 1 } Y Y w w' := by
  have HC : Hid (Calls Tryz.prog 83 #[.pointer (some ⟨Y.mb, 0, none⟩)] w fun e w' => e = .returned (.int .i64 (-1)) ∧ Below w.heap.size w w') := by
    unfold Hid
    have := chosen_any S m Y w ho h
    rw [hc] at this
    exact this
  have HM : Hid (MAt w S m Y) := h
  have HS : Hid (Sep S m Y) := hs
  have n0 := ho.now0
  have i0 := ho.idle
  clear h hs ho hc
  go_enter Tryz.func54, Tryz.ntmps54
  go_wp2_with fail
  refine (HC.out).mono ?_
  rintro e w1 ⟨rfl, hb1⟩
  have hm1 := HM.out.below hb1
  have HM1 : Hid (MAt w1 S m Y) := hm1
  have HB1 : Hid (Below w.heap.size w w1) := hb1
  have c0 := hm1.mc.1
  have c1 : w1.cell? ⟨Y.mb, 1, none⟩ = some (.int .i64 m.idle) := by rw [hm1.mrow.cell (by omega)]; rfl
  have z0 := hm1.mrow.frozen 0
  have z1 := hm1.mrow.frozen 1
  clear hm1 hb1 HC
  go_wp2
  go_ret2
  refine ⟨rfl, ⟨idle_cells (now_cells HM1.out (m.now + 1)) (m.idle + 1), HS.out.fewer (fun _ _ a => a) rfl rfl rfl, ?_, fun b hb => .inl hb, rfl⟩⟩
  exact (((Fr.of_below (foot S m Y) HB1.out)).setCell (.inl (.inl rfl)) _).setCell (.inl (.inl rfl)) _

theorem tickAt_on {S : Sy} {m : Mc} {t : Nat} {j : Jb} {r : List Jb} (hp : (runK (S.K t) (S.L t) t m.hold j).2.p < S.L t) :
    tickAt S m t j r = ({ m with now := m.now + 1, hold := (runK (S.K t) (S.L t) t m.hold j).1, q := upd m.q t ((runK (S.K t) (S.L t) t m.hold j).2 :: r) }, false) := by
  unfold tickAt
  exact if_pos hp
theorem tickAt_off {S : Sy} {m : Mc} {t : Nat} {j : Jb} {r : List Jb} (hp : ¬ (runK (S.K t) (S.L t) t m.hold j).2.p < S.L t) :
    tickAt S m t j r = ({ m with now := m.now + 1, hold := (runK (S.K t) (S.L t) t m.hold j).1, q := upd m.q t r, done := upd m.done t (m.done t + 1), kept := keep m.kept ⟨t, j.arr, j.rel, m.now + 1, (runK (S.K t) (S.L t) t m.hold j).2.left, j.ord⟩ }, true) := by
  unfold tickAt
  exact if_neg hp

theorem live_first' {S : Sy} {m : Mc} {Y : Lay} {t : Nat} {j : Jb} {r : List Jb} (ht : t < S.n) (hq : m.q t = j :: r) : live S m Y t (m.done t) = some (Y.jb t (m.done t)) := by
  rw [live_first ht, hq, if_neg (by simp)]

set_option maxRecDepth 100000 in
set_option maxHeartbeats 2000000 in
theorem mtick_busy (S : Sy) (m : Mc) (Y : Lay) (w : World) (t : Nat) (j : Jb) (r : List Jb) (ho : Ok S m) (h : MAt w S m Y) (hs : Sep S m Y) (hnow : m.now < 1000000000000000000) (ht : t < S.n) (hq : m.q t = j :: r) (hc : (chTo S m S.n).1 = (t : Int)) :
    Calls Tryz.prog 54 #[.pointer (some ⟨Y.mb, 0, none⟩)] w fun e w' => e = .returned (.tuple #[.int .i64 t, .bool (tickAt S m t j r).2]) ∧ ∃ Y', Moved S m (tickAt S m t j r).1 Y Y' w w' := by
  have HC : Hid (Calls Tryz.prog 83 #[.pointer (some ⟨Y.mb, 0, none⟩)] w fun e w' => e = .returned (.int .i64 t) ∧ Below w.heap.size w w') := by
    unfold Hid
    have := chosen_any S m Y w ho h
    rw [hc] at this
    exact this
  have HM : Hid (MAt w S m Y) := h
  have HS : Hid (Sep S m Y) := hs
  have HO : Hid (Ok S { m with now := m.now + 1 }) := ho.later hnow
  have HJ : Hid (JbOk (S.K t) (S.L t) j) := (ho.job t ht j (by rw [hq]; simp)).1
  have hlen := ho.len t ht
  have n0 := ho.now0
  have h8 := ho.eight
  have HQ : Hid (m.q t = j :: r) := hq
  have hd : (m.done t : Int) ≤ 2000000000000000000 := by have := ho.many t ht; have := ho.arrd; omega
  have hkn := ho.keptn
  have hlr := HJ.out.left_range hlen.2
  have HRK := runK_ok (K := S.K t) (L := S.L t) (t := t) (h := m.hold) HJ.out
  have HRK' : Hid _ := HRK
  have hbneg : ((t : Int) == -1) = false := by simp
  clear h hs ho hc hq HRK
  go_enter Tryz.func54, Tryz.ntmps54
  go_wp2_with fail
  refine (HC.out).mono ?_
  rintro e w1 ⟨rfl, hb1⟩
  have hm1 := HM.out.below hb1
  have HB1 : Hid (Below w.heap.size w w1) := hb1
  have c0 := hm1.mc.1
  have z0 := hm1.mrow.frozen 0
  have HM2 : Hid (MAt (w1.setCell ⟨Y.mb, 0, none⟩ (.int .i64 (m.now + 1))) S { m with now := m.now + 1 } Y) := now_cells hm1 (m.now + 1)
  have HF2 : Hid (Fr (foot S m Y) w (w1.setCell ⟨Y.mb, 0, none⟩ (.int .i64 (m.now + 1)))) := (Fr.of_below (foot S m Y) hb1).setCell (.inl (.inl rfl)) _
  clear hm1 hb1 HC HB1
  go_wp2_with fail
  generalize (w1.setCell ⟨Y.mb, 0, none⟩ (.int .i64 (m.now + 1))) = w2 at *
  refine (first_any S { m with now := m.now + 1 } Y t w2 HO.out ht HM2.out).mono ?_
  rintro e w3 ⟨rfl, hb3⟩
  rw [live_first' (m := { m with now := m.now + 1 }) (Y := Y) ht HQ.out]
  have HM3 : Hid (MAt w3 S { m with now := m.now + 1 } Y) := HM2.out.below hb3
  have HF3 : Hid (Fr (foot S m Y) w w3) := HF2.out.then (Fr.of_below _ hb3)
  clear hb3 HM2 HF2
  unfold jptr
  go_wp2_with fail
  refine (run_any Y.mb (Y.jb t (m.done t)) (Y.rb t (m.done t)) (Y.rc t (m.done t)) (S.L t) t (S.K t) (mcell S { m with now := m.now + 1 } Y) j m.hold w3 hlen.2 (by omega) HJ.out (by omega) (by omega) (HM3.out.runInv (m := { m with now := m.now + 1 }) ht HQ.out)).mono ?_
  rintro e w4 ⟨v, rfl, hrest, hinv⟩
  have HR : Hid (RestAt (Y.rb t (m.done t)) (Y.rc t (m.done t)) (S.L t) (runK (S.K t) (S.L t) t m.hold j).2.p v) := hrest
  have HI : Hid (RunInv w3 w4 Y.mb (Y.jb t (m.done t)) (Y.rb t (m.done t)) (Y.rc t (m.done t)) (S.L t) t (mcell S { m with now := m.now + 1 } Y) (S.K t) (runK (S.K t) (S.L t) t m.hold j).2 v (runK (S.K t) (S.L t) t m.hold j).1) := hinv
  have x6 := (jcell_cells hinv.jrow).2.2
  clear hrest hinv
  by_cases hp : (runK (S.K t) (S.L t) t m.hold j).2.p < S.L t
  · have hv := HR.out.1 hp
    subst hv
    have HE : Hid (tickAt S m t j r = ({ m with now := m.now + 1, hold := (runK (S.K t) (S.L t) t m.hold j).1, q := upd m.q t ((runK (S.K t) (S.L t) t m.hold j).2 :: r) }, false)) := by
      exact tickAt_on hp
    unfold restV at x6
    have hd1 : 1 ≤ S.L t - (runK (S.K t) (S.L t) t m.hold j).2.p := by omega
    have FM : Hid (Moved S m (tickAt S m t j r).1 Y Y w w4) := by
      unfold Hid
      rw [HE.out]
      have hlive : ∀ a i, isLive S { m with now := m.now + 1, hold := (runK (S.K t) (S.L t) t m.hold j).1, q := upd m.q t ((runK (S.K t) (S.L t) t m.hold j).2 :: r) } a i ↔ isLive S m a i := fun a i => by
        unfold isLive
        have : (upd m.q t ((runK (S.K t) (S.L t) t m.hold j).2 :: r) a).length = (m.q a).length := by
          by_cases e : a = t
          · rw [e, upd_same, HQ.out]; simp
          · rw [upd_other _ _ e]
        simp only [this]
      refine ⟨HM3.out.goesOn (m := { m with now := m.now + 1 }) (HS.out.fewer (fun _ _ a => a) rfl rfl rfl) ht HQ.out hp HR.out HI.out, HS.out.fewer (fun a i => (hlive a i).1) rfl rfl rfl, HF3.out.then (HI.out.fr.mono (fun i hx => ?_)), fun b hb => .inl ?_, rfl⟩
      · have hl := head_live (S := S) ht HQ.out
        rcases hx with rfl | rfl | rfl
        · exact .inl rfl
        · exact .inr (.inr (.inr (.inr (.inl ⟨t, _, hl, .inl rfl⟩))))
        · exact .inr (.inr (.inr (.inr (.inl ⟨t, _, hl, .inr rfl⟩))))
      · rcases hb with hb | hb | hb | hb | ⟨a, i, hl, hb⟩ | hb
        · exact .inl hb
        · exact .inr (.inl hb)
        · exact .inr (.inr (.inl hb))
        · exact .inr (.inr (.inr (.inl hb)))
        · exact .inr (.inr (.inr (.inr (.inl ⟨a, i, (hlive a i).1 hl, hb⟩))))
        · exact .inr (.inr (.inr (.inr (.inr hb))))
    clear HR HI
    go_wp2
    go_ret2
    exact ⟨ret_pair rfl (by rw [HE.out]), _, FM.out⟩
  · have hpe : (runK (S.K t) (S.L t) t m.hold j).2.p = S.L t := by have := HRK'.out.1; omega
    obtain ⟨ao, c, hv⟩ := HR.out.2 hpe
    subst hv
    have hl := head_live (S := S) ht HQ.out
    have HFIN : Hid (Calls Tryz.prog 86 #[.pointer (some ⟨Y.mb, 0, none⟩), .pointer (some ⟨Y.jb t (m.done t), 0, none⟩)] w4 fun e w' => e = .returned (.tuple #[]) ∧ ∃ Y', Moved S m (tickAt S m t j r).1 Y Y' w w') := by
      unfold Hid
      have hm3 := HM3.out
      obtain ⟨a1, a2⟩ := hm3.jrow t ht 0 j (by show (m.q t)[0]? = _; rw [HQ.out]; rfl)
      have a1' : w3.rowIs (Y.jb t (m.done t)) 160 7 _ := a1
      obtain ⟨fa, har⟩ := a2.row
      have har' : w3.rowIs (Y.rb t (m.done t)) 86 _ fa := har
      have hx : ∀ b, b ≠ Y.mb → b ≠ Y.jb t (m.done t) → b ≠ Y.rb t (m.done t) → ¬ (b = Y.mb ∨ b = Y.jb t (m.done t) ∨ b = Y.rb t (m.done t)) := fun b h1 h2 h3 h => by rcases h with h | h | h; exact h1 h; exact h2 h; exact h3 h
      have ht4 := HI.out.fr.row hm3.trow (hx _ (row_ne hm3.trow hm3.mrow (by decide)) (row_ne hm3.trow a1' (by decide)) (row_ne hm3.trow har' (by decide)))
      have hj4 := hm3.jmap.of_block (HI.out.fr.block _ hm3.jmap.lt (hx _ (hm3.jmap.ne hm3.mrow) (hm3.jmap.ne a1') (hm3.jmap.ne har')))
      have hk4 : w4.ownsRow 0 158 6 Y.kv m.kept.length (keptC m.kept) := ownsRow_of_block hm3.kept (fun b hb => HI.out.fr.block b (hm3.kept.lt b hb).2 (hx _ (fun e => own_neM hm3.kept hm3.mrow (by decide) (by rw [hb, e])) (fun e => own_neM hm3.kept a1' (by decide) (by rw [hb, e])) (fun e => own_neM hm3.kept har' (by decide) (by rw [hb, e]))))
      have g5 : tcell S { m with now := m.now + 1 } Y (t * 7 + 5) = .int .i64 (m.done t) := by
        unfold tcell
        rw [show (t * 7 + 5) / 7 = t from by omega, show (t * 7 + 5) % 7 = 5 from by omega]
        rfl
      refine (finish_any Y.mb Y.tb Y.jm (Y.jb t (m.done t)) S.n t (m.done t) m.arrd.toNat (m.now + 1) (mh (mcell S { m with now := m.now + 1 } Y) (runK (S.K t) (S.L t) t m.hold j).1) (tcell S { m with now := m.now + 1 } Y) (runK (S.K t) (S.L t) t m.hold j).2 _ Y.kv (live S { m with now := m.now + 1 } Y) m.kept w4 h8 ht hd hkn HI.out.mrow rfl rfl rfl rfl ht4 g5 HI.out.jrow hj4 hk4).mono ?_
      rintro e w5 ⟨kv', rfl, hfin⟩
      refine ⟨rfl, { Y with kv := kv' }, ?_⟩
      obtain ⟨r1, r2, r3⟩ := MAt.finished (m := { m with now := m.now + 1 }) hm3 (HS.out.fewer (fun _ _ a => a) rfl rfl rfl) ht HQ.out HI.out hfin
      obtain ⟨_, _, _, k4, k5, k6, _⟩ := HRK'.out
      have hlive : ∀ a i, isLive S (tickAt S m t j r).1 a i → isLive S m a i := fun a i ha => by
        rw [tickAt_off hp] at ha
        obtain ⟨b1, b2, b3⟩ := ha
        by_cases e : a = t
        · subst e
          have b2' : m.done a + 1 ≤ i := by have := b2; simpa [upd_same] using this
          have b3' : i < m.done a + 1 + r.length := by have := b3; simpa [upd_same] using this
          exact ⟨b1, by omega, by rw [HQ.out]; simp only [List.length_cons]; omega⟩
        · have b2' : m.done a ≤ i := by have := b2; simpa [upd_other _ _ e] using this
          have b3' : i < m.done a + (m.q a).length := by have := b3; simpa [upd_other _ _ e] using this
          exact ⟨b1, b2', b3'⟩
      refine ⟨?_, HS.out.fewer hlive rfl rfl rfl, HF3.out.then r2, fun b hb => ?_, rfl⟩
      · rw [tickAt_off hp]
        rw [k4, k5, k6] at r1
        exact r1
      · rcases hb with hb | hb | hb | hb | ⟨a, i, hl, hb⟩ | hb
        · exact .inl (.inl hb)
        · exact .inl (.inr (.inl hb))
        · exact .inl (.inr (.inr (.inl hb)))
        · exact .inl (.inr (.inr (.inr (.inl hb))))
        · exact .inl (.inr (.inr (.inr (.inr (.inl ⟨a, i, hlive a i hl, hb⟩)))))
        · rcases r3 with r3 | ⟨c, r3, r4⟩
          · exact .inl (.inr (.inr (.inr (.inr (.inr (by rw [← r3]; exact hb))))))
          · have hb' : kv'.ownBlock = some b := hb
            rw [r4] at hb'
            have : c = b := by simpa using hb'
            have hsz := HF3.out.size
            exact .inr (by omega)
    have HE2 : Hid ((tickAt S m t j r).2 = true) := by unfold Hid; rw [tickAt_off hp]
    clear HR HI
    go_wp2_with fail
    refine (HFIN.out).mono ?_
    rintro e w5 ⟨rfl, Y', hmv⟩
    have HMV : Hid (Moved S m (tickAt S m t j r).1 Y Y' w w5) := hmv
    clear hmv HFIN
    go_wp2
    go_ret2
    exact ⟨ret_pair rfl HE2.out.symm, _, HMV.out⟩

/-- A tick of the machine. -/
theorem mtick_any (S : Sy) (m : Mc) (Y : Lay) (w : World) (ho : Ok S m) (h : MAt w S m Y) (hs : Sep S m Y) (hnow : m.now < 1000000000000000000) :
    Calls Tryz.prog 54 #[.pointer (some ⟨Y.mb, 0, none⟩)] w fun e w' => e = .returned (.tuple #[.int .i64 (tick S m).2.1, .bool (tick S m).2.2]) ∧ ∃ Y', Moved S m (tick S m).1 Y Y' w w' := by
  rcases tick_cases S m with ⟨hc, e⟩ | ⟨t, j, r, ht, hq, _, hc, e⟩
  · rw [e]
    exact (mtick_idle S m Y w ho h hs hnow hc).mono (fun e w' hh => ⟨hh.1, Y, hh.2⟩)
  · rw [e]
    exact mtick_busy S m Y w t j r ho h hs hnow ht hq hc

end Go.Proofs.YtdabcflpcklfiaaGreat

/- A machine in memory behind an arrival. -/
namespace Go.Proofs.YtdabcflpcklfiaaGreat
open Go.RowKit Cad

def put2 {α : Type} (f : Nat → Nat → α) (t i : Nat) (x : α) : Nat → Nat → α := fun a b => if a = t ∧ b = i then x else f a b

theorem put2_same {α : Type} (f : Nat → Nat → α) (t i : Nat) (x : α) : put2 f t i x t i = x := by simp [put2]
theorem put2_other {α : Type} (f : Nat → Nat → α) {t i a b : Nat} (x : α) (h : ¬ (a = t ∧ b = i)) : put2 f t i x a b = f a b := by simp [put2, h]

/-- Where the memory lies with one job more. -/
def Lay.more (Y : Lay) (t i jb rb rc : Nat) : Lay := { Y with jb := put2 Y.jb t i jb, rb := put2 Y.rb t i rb, rc := put2 Y.rc t i rc }

theorem added_live {S : Sy} {m : Mc} {t : Nat} {jit : Int} {D : Nat → Int} (ht : t < S.n) (a i : Nat) : isLive S (added S m t jit D) a i ↔ (isLive S m a i ∨ (a = t ∧ i = m.done t + (m.q t).length)) := by
  unfold isLive added
  simp only []
  by_cases e : a = t
  · subst e
    rw [upd_same]
    simp only [List.length_append, List.length_cons, List.length_nil, true_and]
    constructor
    · rintro ⟨h1, h2, h3⟩
      by_cases c : i = m.done a + (m.q a).length
      · exact .inr c
      · exact .inl ⟨h1, h2, by omega⟩
    · rintro (⟨h1, h2, h3⟩ | h)
      · exact ⟨h1, h2, by omega⟩
      · exact ⟨ht, by omega, by omega⟩
  · rw [upd_other _ _ e]
    constructor
    · exact fun h => .inl h
    · rintro (h | h)
      · exact h
      · exact absurd h.1 e

theorem MAt.added {w w' : World} {S : Sy} {m : Mc} {Y : Lay} (h : MAt w S m Y) (hs : Sep S m Y) (ho : Ok S m) {t : Nat} {jit : Int} {D : Nat → Int} {jb rb rc : Nat} (ht : t < S.n)
    (hfr : Fr (fun i => i = Y.mb ∨ i = Y.tb ∨ i = Y.jm) w w') (hm : w'.rowIs Y.mb 142 22 (fun q => if q = 2 then .int .i64 (m.arrd + 1) else mcell S m Y q))
    (htr : w'.rowIs Y.tb 145 (S.n * 7) (fun q => if q = t * 7 + 6 then .int .i64 m.now else if q = t * 7 + 4 then .int .i64 ((m.done t : Int) + ((m.q t).length : Int) + 1) else tcell S m Y q))
    (hjm : JMap w' Y.jm (m.arrd.toNat + 1) (mput (live S m Y) t (m.done t + (m.q t).length) (some jb)))
    (hj : w'.rowIs jb 160 7 (jcell t (jobOf S m t jit D) (-1) (restV rb rc (S.L t) 0))) (hr : StepRow w' rb rc (S.K t) (numOf (S.K t) (S.N t) D) (S.L t)) (hjb : w.heap.size ≤ jb) (hrb : w.heap.size ≤ rb) :
    Moved S m (Cad.added S m t jit D) Y (Y.more t (m.done t + (m.q t).length) jb rb rc) w w' := by
  have hblk : ∀ b, b < w.heap.size → b ≠ Y.mb → b ≠ Y.tb → b ≠ Y.jm → w'.heap[b]? = w.heap[b]? := fun b hb h1 h2 h3 => hfr.block b hb (fun hx => by rcases hx with rfl | rfl | rfl; exact h1 rfl; exact h2 rfl; exact h3 rfl)
  have hold : ∀ a i, isLive S m a i → ¬ (a = t ∧ i = m.done t + (m.q t).length) := fun a i hl e => by
    obtain ⟨_, _, h3⟩ := hl
    obtain ⟨rfl, rfl⟩ := e
    omega
  have hlt : ∀ a i, isLive S m a i → Y.jb a i < w.heap.size ∧ Y.rb a i < w.heap.size := fun a i hl => ⟨h.foot_lt (.inr (.inr (.inr (.inr (.inl ⟨a, i, hl, .inl rfl⟩))))), h.foot_lt (.inr (.inr (.inr (.inr (.inl ⟨a, i, hl, .inr rfl⟩)))))⟩
  refine ⟨⟨?_, ?_, fun t' ht' => ?_, ?_, fun t' ht' i jj hjj => ?_, ?_⟩, ⟨?_, ?_, ?_⟩, ?_, fun b hb => ?_, rfl⟩
  · refine hm.congr (fun q _ => ?_)
    by_cases e : q = 2
    · rw [if_pos e, e]; rfl
    · rw [if_neg e]
      unfold mcell Lay.more Cad.added
      simp only [e, if_false]
  · refine htr.congr (fun q _ => ?_)
    show _ = taskC S (Cad.added S m t jit D) (Y.more t (m.done t + (m.q t).length) jb rb rc) (q / 7) (q % 7)
    by_cases e6 : q = t * 7 + 6
    · rw [if_pos e6, show q / 7 = t from by omega, show q % 7 = 6 from by omega]
      unfold taskC Cad.added
      simp [upd_same]
    · rw [if_neg e6]
      by_cases e4 : q = t * 7 + 4
      · rw [if_pos e4, show q / 7 = t from by omega, show q % 7 = 4 from by omega]
        unfold taskC Cad.added
        simp [upd_same]
        omega
      · rw [if_neg e4]
        unfold tcell taskC Cad.added Lay.more
        simp only []
        by_cases e : q / 7 = t
        · have c4 : q % 7 ≠ 4 := by omega
          by_cases c5 : q % 7 < 6
          · simp only [e, c4, if_false]
            have c6 : q % 7 = 0 ∨ q % 7 = 1 ∨ q % 7 = 2 ∨ q % 7 = 3 ∨ q % 7 = 5 := by omega
            rcases c6 with c | c | c | c | c <;> simp [c]
          · omega
        · rw [upd_other _ _ e, upd_other _ _ e]
  · obtain ⟨f, hf⟩ := (h.prow t' ht').row
    exact (h.prow t' ht').of_block (hblk _ (h.prow t' ht').lt (row_ne hf h.mrow (by decide)) (row_ne hf h.trow (by decide)) (fun e => h.jmap.ne hf e.symm))
  · have e1 : (Cad.added S m t jit D).arrd.toNat = m.arrd.toNat + 1 := by
      show (m.arrd + 1).toNat = _
      have := ho.arrd
      omega
    rw [e1]
    refine hjm.congr (fun a i => ?_)
    have hl := added_live (S := S) (m := m) (jit := jit) (D := D) ht a i
    unfold mput live
    show _ = if isLive S (Cad.added S m t jit D) a i then some (put2 Y.jb t (m.done t + (m.q t).length) jb a i) else none
    by_cases e : a = t ∧ i = m.done t + (m.q t).length
    · rw [if_pos e, if_pos (hl.2 (.inr e)), e.1, e.2, put2_same]
    · rw [if_neg e, put2_other _ _ e]
      show (if isLive S m a i then some (Y.jb a i) else none) = _
      by_cases c : isLive S m a i
      · rw [if_pos c, if_pos (hl.2 (.inl c))]
      · rw [if_neg c, if_neg (fun hx => by rcases hl.1 hx with h1 | h1; exact c h1; exact e h1)]
  · have hjj' : (upd m.q t (m.q t ++ [jobOf S m t jit D]) t')[i]? = some jj := hjj
    show w'.rowIs (put2 Y.jb t (m.done t + (m.q t).length) jb t' (m.done t' + i)) 160 7 (jcell t' jj (-1) (restV (put2 Y.rb t (m.done t + (m.q t).length) rb t' (m.done t' + i)) (put2 Y.rc t (m.done t + (m.q t).length) rc t' (m.done t' + i)) (S.L t') jj.p)) ∧
      StepRow w' (put2 Y.rb t (m.done t + (m.q t).length) rb t' (m.done t' + i)) (put2 Y.rc t (m.done t + (m.q t).length) rc t' (m.done t' + i)) (S.K t') jj.N (S.L t')
    by_cases e : t' = t ∧ i = (m.q t).length
    · obtain ⟨rfl, rfl⟩ := e
      rw [upd_same] at hjj'
      have hjq : jobOf S m t' jit D = jj := by simpa using hjj'
      subst hjq
      rw [put2_same, put2_same, put2_same]
      exact ⟨hj, hr⟩
    · have hne : ¬ (t' = t ∧ m.done t' + i = m.done t + (m.q t).length) := fun hx => e ⟨hx.1, by have := hx.2; rw [hx.1] at this; omega⟩
      rw [put2_other _ _ hne, put2_other _ _ hne, put2_other _ _ hne]
      have hjo : (m.q t')[i]? = some jj := by
        by_cases e1 : t' = t
        · subst e1
          rw [upd_same] at hjj'
          have hi : i < (m.q t').length := by
            have := (List.getElem?_eq_some_iff.1 hjj').1
            simp at this
            omega
          rwa [List.getElem?_append_left hi] at hjj'
        · rwa [upd_other _ _ e1] at hjj'
      obtain ⟨b1, b2⟩ := h.jrow t' ht' i jj hjo
      obtain ⟨f, hf⟩ := b2.row
      exact ⟨b1.of_block (hblk _ b1.lt (row_ne b1 h.mrow (by decide)) (row_ne b1 h.trow (by decide)) (fun e => h.jmap.ne b1 e.symm)), b2.of_block (hblk _ b2.lt (row_ne hf h.mrow (by decide)) (row_ne hf h.trow (by decide)) (fun e => h.jmap.ne hf e.symm))⟩
  · exact ownsRow_of_block h.kept (fun b hb => by
      have hb' : Y.kv.ownBlock = some b := hb
      exact hblk b (h.kept.lt b hb').2 (fun e => own_neM h.kept h.mrow (by decide) (by rw [hb', e])) (fun e => own_neM h.kept h.trow (by decide) (by rw [hb', e])) (fun e => own_ne_map h.kept h.jmap (by rw [hb', e])))
  · intro a i a' i' hl hl' e
    have e' : put2 Y.jb t (m.done t + (m.q t).length) jb a i = put2 Y.jb t (m.done t + (m.q t).length) jb a' i' := e
    rcases (added_live ht a i).1 hl with h1 | h1 <;> rcases (added_live ht a' i').1 hl' with h2 | h2
    · rw [put2_other _ _ (hold _ _ h1), put2_other _ _ (hold _ _ h2)] at e'
      exact hs.jobs _ _ _ _ h1 h2 e'
    · rw [put2_other _ _ (hold _ _ h1), h2.1, h2.2, put2_same] at e'
      have := (hlt _ _ h1).1
      omega
    · rw [put2_other _ _ (hold _ _ h2), h1.1, h1.2, put2_same] at e'
      have := (hlt _ _ h2).1
      omega
    · exact ⟨h1.1.trans h2.1.symm, h1.2.trans h2.2.symm⟩
  · intro a i a' i' hl hl' e
    have e' : put2 Y.rb t (m.done t + (m.q t).length) rb a i = put2 Y.rb t (m.done t + (m.q t).length) rb a' i' := e
    rcases (added_live ht a i).1 hl with h1 | h1 <;> rcases (added_live ht a' i').1 hl' with h2 | h2
    · rw [put2_other _ _ (hold _ _ h1), put2_other _ _ (hold _ _ h2)] at e'
      exact hs.rests _ _ _ _ h1 h2 e'
    · rw [put2_other _ _ (hold _ _ h1), h2.1, h2.2, put2_same] at e'
      have := (hlt _ _ h1).2
      omega
    · rw [put2_other _ _ (hold _ _ h2), h1.1, h1.2, put2_same] at e'
      have := (hlt _ _ h2).2
      omega
    · exact ⟨h1.1.trans h2.1.symm, h1.2.trans h2.2.symm⟩
  · intro a i a' hl ha' e
    have e' : put2 Y.rb t (m.done t + (m.q t).length) rb a i = Y.pb a' := e
    rcases (added_live ht a i).1 hl with h1 | h1
    · rw [put2_other _ _ (hold _ _ h1)] at e'
      exact hs.progs _ _ _ h1 ha' e'
    · rw [h1.1, h1.2, put2_same] at e'
      have := (h.prow a' ha').lt
      omega
  · exact hfr.mono (fun i hi => by
      rcases hi with rfl | rfl | rfl
      · exact .inl rfl
      · exact .inr (.inl rfl)
      · exact .inr (.inr (.inl rfl)))
  · rcases hb with hb | hb | hb | hb | ⟨a, i, hl, hb⟩ | hb
    · exact .inl (.inl hb)
    · exact .inl (.inr (.inl hb))
    · exact .inl (.inr (.inr (.inl hb)))
    · exact .inl (.inr (.inr (.inr (.inl hb))))
    · rcases (added_live ht a i).1 hl with h1 | h1
      · have e1 : (Y.more t (m.done t + (m.q t).length) jb rb rc).jb a i = Y.jb a i := put2_other _ _ (hold _ _ h1)
        have e2 : (Y.more t (m.done t + (m.q t).length) jb rb rc).rb a i = Y.rb a i := put2_other _ _ (hold _ _ h1)
        rw [e1, e2] at hb
        exact .inl (.inr (.inr (.inr (.inr (.inl ⟨a, i, h1, hb⟩)))))
      · have e1 : (Y.more t (m.done t + (m.q t).length) jb rb rc).jb a i = jb := by rw [h1.1, h1.2]; exact put2_same _ _ _ _
        have e2 : (Y.more t (m.done t + (m.q t).length) jb rb rc).rb a i = rb := by rw [h1.1, h1.2]; exact put2_same _ _ _ _
        rw [e1, e2] at hb
        rcases hb with rfl | rfl
        · exact .inr hjb
        · exact .inr hrb
    · exact .inl (.inr (.inr (.inr (.inr (.inr hb)))))

end Go.Proofs.YtdabcflpcklfiaaGreat
