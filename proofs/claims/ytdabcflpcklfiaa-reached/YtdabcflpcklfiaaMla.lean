import Derived.Test.YtdabcflpcklfiaaMj
import Derived.Deep.Cut
/- A job is done: the walk. -/
namespace Go.Proofs.Ytdabcflpcklfiaa
open Go.RowKit Cad

structure FinInv (w wc : World) (mb tb jm jb n t d N : Nat) (now : Int) (f g : Nat → Value) (j : Jb) (v kv kv1 : Value) (M : Nat → Nat → Option Nat) (l1 : List Rc) : Prop where
  mrow : wc.rowIs mb 135 22 (fun q => if q = 21 then kv1 else f q)
  trow : wc.rowIs tb 150 (n * 7) (fun q => if q = t * 7 + 5 then .int .i64 ((d : Int) + 1) else g q)
  jrow : wc.rowIs jb 142 7 (jcell t j now v)
  jmap : JMap wc jm N (mput M t d none)
  kept : wc.ownsRow 0 140 6 kv1 l1.length (keptC l1)
  blk : kv1.ownBlock = kv.ownBlock ∨ ∃ b, w.heap.size ≤ b ∧ kv1.ownBlock = some b
  fr : Fr (fun i => i = mb ∨ i = tb ∨ i = jm ∨ i = jb ∨ kv.ownBlock = some i) w wc

theorem FinInv.store {w W w3 : World} {mb tb jm jb n t d N : Nat} {now : Int} {f g : Nat → Value} {j : Jb} {v kv kv1 kv2 : Value} {M : Nat → Nat → Option Nat} {l1 l2 : List Rc} (h : FinInv w W mb tb jm jb n t d N now f g j v kv kv1 M l1)
    (hfr : Fr (fun i => kv1.ownBlock = some i) W w3) (hown : w3.ownsRow 0 140 6 kv2 l2.length (keptC l2)) (hb : kv2.ownBlock = kv1.ownBlock ∨ ∃ b, W.heap.size ≤ b ∧ kv2.ownBlock = some b) : FinInv w (w3.setCell ⟨mb, 21, none⟩ kv2) mb tb jm jb n t d N now f g j v kv kv2 M l2 := by
  have hkm := own_neK h.kept h.mrow (by decide)
  have hkt := own_neK h.kept h.trow (by decide)
  have hkj := own_neK h.kept h.jrow (by decide)
  have hkx := own_ne_map h.kept h.jmap
  have hmt : mb ≠ tb := row_ne h.mrow h.trow (by decide)
  have hmj : mb ≠ jb := row_ne h.mrow h.jrow (by decide)
  have hxm : jm ≠ mb := h.jmap.ne h.mrow
  have m3 := hfr.row h.mrow hkm
  have hk2 := own_neK hown m3 (by decide)
  refine ⟨?_, (hfr.row h.trow hkt).setOther (by simpa using hmt.symm) _, (hfr.row h.jrow hkj).setOther (by simpa using hmj.symm) _, h.jmap.of_block ((Deep.blk_setCell_other _ _ _ _ (by simpa using hxm)).trans (hfr.block _ h.jmap.lt hkx)),
    ownsRow_of_block hown (fun b hb => Deep.blk_setCell_other _ _ _ _ (fun e => hk2 (by rw [hb, e]))), ?_, (h.fr.trans hfr (fun i hi => ?_)).setCell (.inl (.inl rfl)) _⟩
  · refine (m3.set 21 kv2).congr (fun q _ => ?_)
    by_cases e : q = 21
    · rw [if_pos e, if_pos e]
    · rw [if_neg e, if_neg e, if_neg e]
  · rcases hb with hb | ⟨b, hb1, hb2⟩
    · rcases h.blk with h1 | ⟨b, h1, h2⟩
      · exact .inl (hb.trans h1)
      · exact .inr ⟨b, h1, hb.trans h2⟩
    · exact .inr ⟨b, Nat.le_trans h.fr.size hb1, hb2⟩
  · rcases h.blk with h1 | ⟨b, h1, h2⟩
    · exact .inl (.inr (.inr (.inr (.inr (by rw [← h1]; exact hi)))))
    · rw [h2] at hi
      have : b = i := by simpa using hi
      exact .inr (by omega)

theorem own_shapeK {w : World} {base e size : Nat} {v : Value} {n : Nat} {xs : List Value} (h : w.ownsRow base e size v n xs) : ∃ ao cap, v = .slice ao n cap := by
  obtain ⟨_, ⟨rfl, rfl⟩ | ⟨g, cap, cur, rfl, _⟩⟩ := h
  · exact ⟨none, 0, rfl⟩
  · exact ⟨_, cap, rfl⟩

theorem keptC_one (l : List Rc) : ∀ u ∈ keptC l, u.oneCell' = true := by
  intro u hu
  unfold keptC at hu
  obtain ⟨r, _, hr⟩ := List.mem_flatMap.1 hu
  simp [recC] at hr
  rcases hr with rfl | rfl | rfl | rfl | rfl | rfl <;> rfl

theorem keptC_tail {l : List Rc} (h : 1 ≤ l.length) : (keptC l).drop 6 = keptC l.tail := by
  cases l with
  | nil => simp at h
  | cons r l => simp [keptC, recC]

theorem keptC_snoc (l : List Rc) (r : Rc) : keptC l ++ recC r = keptC (l ++ [r]) := by simp [keptC]

theorem new_rec (w : World) (a0 a1 a2 a3 a4 a5 : Value) : ∀ k u, [a0, a1, a2, a3, a4, a5][k]? = some u → (w.alloc (.cells #[a0, a1, a2, a3, a4, a5] 140)).cell? ((⟨w.heap.size, 0, none⟩ : Addr).add k) = some u := by
  intro k u hu
  rw [Addr.add_lit, Nat.zero_add]
  have hr := World.rowIs_alloc w #[a0, a1, a2, a3, a4, a5] 140 (fun i => ([a0, a1, a2, a3, a4, a5][i]?).getD a0) (fun i hi => by
    have hi' : i < 6 := hi
    match i, hi' with
    | 0, _ => rfl
    | 1, _ => rfl
    | 2, _ => rfl
    | 3, _ => rfl
    | 4, _ => rfl
    | 5, _ => rfl)
  have hk : k < 6 := (List.getElem?_eq_some_iff.1 hu).1
  have := hr.cell (i := k) (by exact hk)
  rw [this, hu]
  rfl

theorem FinInv.append {w wc w2 : World} {mb tb jm jb n t d N : Nat} {now : Int} {f g : Nat → Value} {j : Jb} {v kv kv1 kv2 : Value} {M : Nat → Nat → Option Nat} {l1 : List Rc} {r : Rc} {o : Obj} (h : FinInv w wc mb tb jm jb n t d N now f g j v kv kv1 M l1)
    (hown : w2.ownsRow 0 140 6 kv2 (l1.length + 1) (keptC l1 ++ recC r)) (hg : (wc.drew.alloc o).grownBy w2 kv1.ownBlock) (hb : kv2.ownBlock = kv1.ownBlock ∨ kv2.ownBlock = some (wc.drew.alloc o).heap.size) :
    FinInv w (w2.setCell ⟨mb, 21, none⟩ kv2) mb tb jm jb n t d N now f g j v kv kv2 M (l1 ++ [r]) ∧ w2.cell? ⟨mb, 21, none⟩ = some kv1 ∧ w2.frozen? ⟨mb, 21, none⟩ = false := by
  have hfr : Fr (fun i => kv1.ownBlock = some i) wc w2 := ((Fr.refl _ wc).drew.alloc o).then (fr_grown hg)
  have hkm := own_neK h.kept h.mrow (by decide)
  have m3 := hfr.row h.mrow hkm
  refine ⟨h.store hfr (by rw [← keptC_snoc, List.length_append]; exact hown) ?_, by rw [m3.cell (by omega), if_pos rfl], m3.frozen 21⟩
  rcases hb with hb | hb
  · exact .inl hb
  · exact .inr ⟨_, by simp, hb⟩

end Go.Proofs.Ytdabcflpcklfiaa
