import Derived.Test.YtdabcflpcklfiaaMo
/- A machine in memory behind an arrival. -/
namespace Go.Proofs.Ytdabcflpcklfiaa
open Go.RowKit Cad

def put2 {α : Type} (f : Nat → Nat → α) (t i : Nat) (x : α) : Nat → Nat → α := fun a b => if a = t ∧ b = i then x else f a b

theorem put2_same {α : Type} (f : Nat → Nat → α) (t i : Nat) (x : α) : put2 f t i x t i = x := by simp [put2]
theorem put2_other {α : Type} (f : Nat → Nat → α) {t i a b : Nat} (x : α) (h : ¬ (a = t ∧ b = i)) : put2 f t i x a b = f a b := by simp [put2, h]

/-- Where the memory lies with one job more. -/
def Lay.more (Y : Lay) (t i jb rb rc : Nat) : Lay := { Y with jb := put2 Y.jb t i jb, rb := put2 Y.rb t i rb, rc := put2 Y.rc t i rc }

instance (S : Sy) (m : Mc) (t i : Nat) : Decidable (isLive S m t i) := inferInstanceAs (Decidable (t < S.n ∧ m.done t ≤ i ∧ i < m.done t + (m.q t).length))

theorem added_live {S : Sy} {m : Mc} {t : Nat} {jit : Int} {D : Nat → Int} (ht : t < S.n) (a i : Nat) : isLive S (added S m t jit D) a i ↔ (isLive S m a i ∨ (a = t ∧ i = m.done t + (m.q t).length)) := by
  unfold isLive added
  simp only []
  by_cases e : a = t
  · subst e
    rw [upd_same]
    simp only [List.length_append, List.length_cons, List.length_nil, true_and]
    constructor
    · rintro ⟨h1, h2, h3⟩
      by_cases c : i = m.done a + (m.q a).length
      · exact .inr c
      · exact .inl ⟨h1, h2, by omega⟩
    · rintro (⟨h1, h2, h3⟩ | h)
      · exact ⟨h1, h2, by omega⟩
      · exact ⟨ht, by omega, by omega⟩
  · rw [upd_other _ _ e]
    constructor
    · exact fun h => .inl h
    · rintro (h | h)
      · exact h
      · exact absurd h.1 e

theorem MAt.added {w w' : World} {S : Sy} {m : Mc} {Y : Lay} (h : MAt w S m Y) (hs : Sep S m Y) (ho : Ok S m) {t : Nat} {jit : Int} {D : Nat → Int} {jb rb rc : Nat} (ht : t < S.n)
    (hfr : Fr (fun i => i = Y.mb ∨ i = Y.tb ∨ i = Y.jm) w w') (hm : w'.rowIs Y.mb 135 22 (fun q => if q = 2 then .int .i64 (m.arrd + 1) else mcell S m Y q))
    (htr : w'.rowIs Y.tb 150 (S.n * 7) (fun q => if q = t * 7 + 6 then .int .i64 m.now else if q = t * 7 + 4 then .int .i64 ((m.done t : Int) + ((m.q t).length : Int) + 1) else tcell S m Y q))
    (hjm : JMap w' Y.jm (m.arrd.toNat + 1) (mput (live S m Y) t (m.done t + (m.q t).length) (some jb)))
    (hj : w'.rowIs jb 142 7 (jcell t (jobOf S m t jit D) (-1) (restV rb rc (S.L t) 0))) (hr : StepRow w' rb rc (S.K t) (numOf (S.K t) (S.N t) D) (S.L t)) (hjb : w.heap.size ≤ jb) (hrb : w.heap.size ≤ rb) :
    Moved S m (Cad.added S m t jit D) Y (Y.more t (m.done t + (m.q t).length) jb rb rc) w w' := by
  have hblk : ∀ b, b < w.heap.size → b ≠ Y.mb → b ≠ Y.tb → b ≠ Y.jm → w'.heap[b]? = w.heap[b]? := fun b hb h1 h2 h3 => hfr.block b hb (fun hx => by rcases hx with rfl | rfl | rfl; exact h1 rfl; exact h2 rfl; exact h3 rfl)
  have hold : ∀ a i, isLive S m a i → ¬ (a = t ∧ i = m.done t + (m.q t).length) := fun a i hl e => by
    obtain ⟨_, _, h3⟩ := hl
    obtain ⟨rfl, rfl⟩ := e
    omega
  have hlt : ∀ a i, isLive S m a i → Y.jb a i < w.heap.size ∧ Y.rb a i < w.heap.size := fun a i hl => ⟨h.foot_lt (.inr (.inr (.inr (.inr (.inl ⟨a, i, hl, .inl rfl⟩))))), h.foot_lt (.inr (.inr (.inr (.inr (.inl ⟨a, i, hl, .inr rfl⟩)))))⟩
  refine ⟨⟨?_, ?_, fun t' ht' => ?_, ?_, fun t' ht' i jj hjj => ?_, ?_⟩, ⟨?_, ?_, ?_⟩, ?_, fun b hb => ?_, rfl⟩
  · refine hm.congr (fun q _ => ?_)
    by_cases e : q = 2
    · rw [if_pos e, e]; rfl
    · rw [if_neg e]
      unfold mcell Lay.more Cad.added
      simp only [e, if_false]
  · refine htr.congr (fun q _ => ?_)
    show _ = taskC S (Cad.added S m t jit D) (Y.more t (m.done t + (m.q t).length) jb rb rc) (q / 7) (q % 7)
    by_cases e6 : q = t * 7 + 6
    · rw [if_pos e6, show q / 7 = t from by omega, show q % 7 = 6 from by omega]
      unfold taskC Cad.added
      simp [upd_same]
    · rw [if_neg e6]
      by_cases e4 : q = t * 7 + 4
      · rw [if_pos e4, show q / 7 = t from by omega, show q % 7 = 4 from by omega]
        unfold taskC Cad.added
        simp [upd_same]
        omega
      · rw [if_neg e4]
        unfold tcell taskC Cad.added Lay.more
        simp only []
        by_cases e : q / 7 = t
        · have c4 : q % 7 ≠ 4 := by omega
          by_cases c5 : q % 7 < 6
          · simp only [e, c4, if_false]
            have c6 : q % 7 = 0 ∨ q % 7 = 1 ∨ q % 7 = 2 ∨ q % 7 = 3 ∨ q % 7 = 5 := by omega
            rcases c6 with c | c | c | c | c <;> simp [c]
          · omega
        · rw [upd_other _ _ e, upd_other _ _ e]
  · obtain ⟨f, hf⟩ := (h.prow t' ht').row
    exact (h.prow t' ht').of_block (hblk _ (h.prow t' ht').lt (row_ne hf h.mrow (by decide)) (row_ne hf h.trow (by decide)) (fun e => h.jmap.ne hf e.symm))
  · have e1 : (Cad.added S m t jit D).arrd.toNat = m.arrd.toNat + 1 := by
      show (m.arrd + 1).toNat = _
      have := ho.arrd
      omega
    rw [e1]
    refine hjm.congr (fun a i => ?_)
    have hl := added_live (S := S) (m := m) (jit := jit) (D := D) ht a i
    unfold mput live
    show _ = if isLive S (Cad.added S m t jit D) a i then some (put2 Y.jb t (m.done t + (m.q t).length) jb a i) else none
    by_cases e : a = t ∧ i = m.done t + (m.q t).length
    · rw [if_pos e, if_pos (hl.2 (.inr e)), e.1, e.2, put2_same]
    · rw [if_neg e, put2_other _ _ e]
      show (if isLive S m a i then some (Y.jb a i) else none) = _
      by_cases c : isLive S m a i
      · rw [if_pos c, if_pos (hl.2 (.inl c))]
      · rw [if_neg c, if_neg (fun hx => by rcases hl.1 hx with h1 | h1; exact c h1; exact e h1)]
  · have hjj' : (upd m.q t (m.q t ++ [jobOf S m t jit D]) t')[i]? = some jj := hjj
    show w'.rowIs (put2 Y.jb t (m.done t + (m.q t).length) jb t' (m.done t' + i)) 142 7 (jcell t' jj (-1) (restV (put2 Y.rb t (m.done t + (m.q t).length) rb t' (m.done t' + i)) (put2 Y.rc t (m.done t + (m.q t).length) rc t' (m.done t' + i)) (S.L t') jj.p)) ∧
      StepRow w' (put2 Y.rb t (m.done t + (m.q t).length) rb t' (m.done t' + i)) (put2 Y.rc t (m.done t + (m.q t).length) rc t' (m.done t' + i)) (S.K t') jj.N (S.L t')
    by_cases e : t' = t ∧ i = (m.q t).length
    · obtain ⟨rfl, rfl⟩ := e
      rw [upd_same] at hjj'
      have hjq : jobOf S m t' jit D = jj := by simpa using hjj'
      subst hjq
      rw [put2_same, put2_same, put2_same]
      exact ⟨hj, hr⟩
    · have hne : ¬ (t' = t ∧ m.done t' + i = m.done t + (m.q t).length) := fun hx => e ⟨hx.1, by have := hx.2; rw [hx.1] at this; omega⟩
      rw [put2_other _ _ hne, put2_other _ _ hne, put2_other _ _ hne]
      have hjo : (m.q t')[i]? = some jj := by
        by_cases e1 : t' = t
        · subst e1
          rw [upd_same] at hjj'
          have hi : i < (m.q t').length := by
            have := (List.getElem?_eq_some_iff.1 hjj').1
            simp at this
            omega
          rwa [List.getElem?_append_left hi] at hjj'
        · rwa [upd_other _ _ e1] at hjj'
      obtain ⟨b1, b2⟩ := h.jrow t' ht' i jj hjo
      obtain ⟨f, hf⟩ := b2.row
      exact ⟨b1.of_block (hblk _ b1.lt (row_ne b1 h.mrow (by decide)) (row_ne b1 h.trow (by decide)) (fun e => h.jmap.ne b1 e.symm)), b2.of_block (hblk _ b2.lt (row_ne hf h.mrow (by decide)) (row_ne hf h.trow (by decide)) (fun e => h.jmap.ne hf e.symm))⟩
  · exact ownsRow_of_block h.kept (fun b hb => by
      have hb' : Y.kv.ownBlock = some b := hb
      exact hblk b (h.kept.lt b hb').2 (fun e => own_neM h.kept h.mrow (by decide) (by rw [hb', e])) (fun e => own_neM h.kept h.trow (by decide) (by rw [hb', e])) (fun e => own_ne_map h.kept h.jmap (by rw [hb', e])))
  · intro a i a' i' hl hl' e
    have e' : put2 Y.jb t (m.done t + (m.q t).length) jb a i = put2 Y.jb t (m.done t + (m.q t).length) jb a' i' := e
    rcases (added_live ht a i).1 hl with h1 | h1 <;> rcases (added_live ht a' i').1 hl' with h2 | h2
    · rw [put2_other _ _ (hold _ _ h1), put2_other _ _ (hold _ _ h2)] at e'
      exact hs.jobs _ _ _ _ h1 h2 e'
    · rw [put2_other _ _ (hold _ _ h1), h2.1, h2.2, put2_same] at e'
      have := (hlt _ _ h1).1
      omega
    · rw [put2_other _ _ (hold _ _ h2), h1.1, h1.2, put2_same] at e'
      have := (hlt _ _ h2).1
      omega
    · exact ⟨h1.1.trans h2.1.symm, h1.2.trans h2.2.symm⟩
  · intro a i a' i' hl hl' e
    have e' : put2 Y.rb t (m.done t + (m.q t).length) rb a i = put2 Y.rb t (m.done t + (m.q t).length) rb a' i' := e
    rcases (added_live ht a i).1 hl with h1 | h1 <;> rcases (added_live ht a' i').1 hl' with h2 | h2
    · rw [put2_other _ _ (hold _ _ h1), put2_other _ _ (hold _ _ h2)] at e'
      exact hs.rests _ _ _ _ h1 h2 e'
    · rw [put2_other _ _ (hold _ _ h1), h2.1, h2.2, put2_same] at e'
      have := (hlt _ _ h1).2
      omega
    · rw [put2_other _ _ (hold _ _ h2), h1.1, h1.2, put2_same] at e'
      have := (hlt _ _ h2).2
      omega
    · exact ⟨h1.1.trans h2.1.symm, h1.2.trans h2.2.symm⟩
  · intro a i a' hl ha' e
    have e' : put2 Y.rb t (m.done t + (m.q t).length) rb a i = Y.pb a' := e
    rcases (added_live ht a i).1 hl with h1 | h1
    · rw [put2_other _ _ (hold _ _ h1)] at e'
      exact hs.progs _ _ _ h1 ha' e'
    · rw [h1.1, h1.2, put2_same] at e'
      have := (h.prow a' ha').lt
      omega
  · exact hfr.mono (fun i hi => by
      rcases hi with rfl | rfl | rfl
      · exact .inl rfl
      · exact .inr (.inl rfl)
      · exact .inr (.inr (.inl rfl)))
  · rcases hb with hb | hb | hb | hb | ⟨a, i, hl, hb⟩ | hb
    · exact .inl (.inl hb)
    · exact .inl (.inr (.inl hb))
    · exact .inl (.inr (.inr (.inl hb)))
    · exact .inl (.inr (.inr (.inr (.inl hb))))
    · rcases (added_live ht a i).1 hl with h1 | h1
      · have e1 : (Y.more t (m.done t + (m.q t).length) jb rb rc).jb a i = Y.jb a i := put2_other _ _ (hold _ _ h1)
        have e2 : (Y.more t (m.done t + (m.q t).length) jb rb rc).rb a i = Y.rb a i := put2_other _ _ (hold _ _ h1)
        rw [e1, e2] at hb
        exact .inl (.inr (.inr (.inr (.inr (.inl ⟨a, i, h1, hb⟩)))))
      · have e1 : (Y.more t (m.done t + (m.q t).length) jb rb rc).jb a i = jb := by rw [h1.1, h1.2]; exact put2_same _ _ _ _
        have e2 : (Y.more t (m.done t + (m.q t).length) jb rb rc).rb a i = rb := by rw [h1.1, h1.2]; exact put2_same _ _ _ _
        rw [e1, e2] at hb
        rcases hb with rfl | rfl
        · exact .inr hjb
        · exact .inr hrb
    · exact .inl (.inr (.inr (.inr (.inr (.inr hb)))))

end Go.Proofs.Ytdabcflpcklfiaa
