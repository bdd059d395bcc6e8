import Derived.Test.YtdabcflpcklfiaaGreatA42
import Derived.Test.YtdabcflpcklfiaaGreatA23
/- The law: its marks; numbers that come back. -/
namespace Go.Proofs.YtdabcflpcklfiaaGreat
open Go.RowKit Cad

theorem Tryz.info23 : (Tryz.prog.info? 23).map (fun i => (i.zero, i.size, i.bytes)) = some (some (.slice none 0 0), 1, 24) := by kernel_rfl
theorem Tryz.info90 : (Tryz.prog.info? 90).map (fun i => (i.zero, i.size, i.bytes)) = some (some (.slice none 0 0), 1, 24) := by kernel_rfl

set_option maxHeartbeats 1000000 in
theorem mark2_any {w : World} {Wb : Nat} {V : Nat → Value} {C : Nat → List Value} {last : Int} {M : Nat → Prop} (hm : LM M w Wb V C last) (h0 : -1000000000000 ≤ last) (h1 : last ≤ 1000000) :
    Calls Tryz.prog 65 #[.pointer (some ⟨Wb, 0, none⟩)] w fun e w' => e = .returned (.int .i64 (last - 1 - 100)) ∧ w' = w.setCell ⟨Wb, 8, none⟩ (.int .i64 (last - 1)) := by
  have c8 : w.cell? ⟨Wb, 8, none⟩ = some (.int .i64 last) := hm.row.cell (by omega)
  have z8 : w.frozen? ⟨Wb, 8, none⟩ = false := hm.row.frozen 8
  clear hm
  go_enter Tryz.func65, Tryz.ntmps65
  go_wp2
  go_ret
  exact ⟨rfl, rfl⟩

set_option maxRecDepth 100000 in
set_option maxHeartbeats 4000000 in
theorem retInts2_any {w : World} {Wb : Nat} {V : Nat → Value} {C : Nat → List Value} {last : Int} {M E : Nat → Prop} {qb n cap : Nat} {ao : Option Addr} {Z : Nat → Int} (hm : LM M w Wb V C last) (he : LE E w C) (hn : n * 8 ≤ 140737488351232) (hq : w.rowIs qb 3 (n + 1) (lenf Z n)) (hqM : ¬ M qb) (hqE : ¬ E qb) (hd : Dis M E)
    (hC : (C 5).length ≤ 1000000000000) (hZ : 1 ≤ n → ∃ b off, ao = some ⟨b, off, none⟩ ∧ IntsAt w b off n Z) :
    Calls Tryz.prog 21 #[.pointer (some ⟨Wb, 0, none⟩), .slice (some ⟨qb, 0, none⟩) (n + 1) (n + 1), .slice ao n cap] w fun e w' => e = .returned (.bool true) ∧
      ∃ v', LM (Nx M w.heap.size w'.heap.size) w' Wb (upd V 5 v') (upd C 5 (C 5 ++ [.slice (some ⟨qb, 0, none⟩) (n + 1) (n + 1)])) last ∧ LE (fun q => E q ∨ q = qb) w' (upd C 5 (C 5 ++ [.slice (some ⟨qb, 0, none⟩) (n + 1) (n + 1)])) ∧ Fr (fun q => M q ∨ q = qb) w w' := by
  obtain ⟨i6, hi6, hz60, hz61, hz62⟩ := info_parts Tryz.info23
  have HM : Hid (LM M w Wb V C last) := hm
  have HE : Hid (LE E w C) := he
  have HQ : Hid (w.rowIs qb 3 (n + 1) (lenf Z n)) := hq
  have HZ : Hid (1 ≤ n → ∃ b off, ao = some ⟨b, off, none⟩ ∧ IntsAt w b off n Z) := hZ
  have HQI : Hid (1 ≤ n → ∃ b off, (some ⟨qb, 0, none⟩ : Option Addr) = some ⟨b, off, none⟩ ∧ IntsAt w b off n Z) := fun _ => ⟨qb, 0, rfl, fun i hi => by rw [Nat.zero_add, hq.cell (by omega)]; unfold lenf; rw [if_pos hi]⟩
  have cn : w.cell? ⟨qb, n, none⟩ = some (.int .i64 0) := (hq.cell (by omega)).trans (by unfold lenf; rw [if_neg (by omega)]; rfl)
  have hql := hq.lt
  have HX : Hid (Dis M E ∧ ¬ M qb ∧ ¬ E qb) := ⟨hd, hqM, hqE⟩
  clear hm he hq hZ hd hqM hqE
  go_enter Tryz.func21, Tryz.ntmps21
  go_wp2_with fail
  refine (sameInts_any (some ⟨qb, 0, none⟩) ao n (n + 1) cap Z _ (by omega) HQI.out HZ.out).mono ?_
  rintro e w1 ⟨rfl, m, rfl⟩
  go_wp2_with fail
  clear cn
  go_loopw [10] (fun iv wr => ∃ i : Nat, i ≤ n + 1 ∧ iv = .int .i64 i ∧ (∃ f, wr.rowIs qb 3 (n + 1) f ∧ ∀ q, q < i → f q = neg7 q) ∧ Fr (fun q => q = qb) w wr) (fun iv _ => n + 1 - (intOf iv).toNat)
  case atStart => exact ⟨0, Nat.zero_le _, rfl, ⟨_, HQ.out, fun q hq => by omega⟩, Fr.of_below _ (below_drewM (Below.refl _ _) _)⟩
  case round =>
    obtain ⟨i, hi, rfl, ⟨f, hrow, hf⟩, hfr⟩ := hrel
    by_cases hlt : i < n + 1
    · have x : wr.cell? ⟨qb, i, none⟩ = some (f i) := hrow.cell hlt
      have z : ∀ q, wr.frozen? ⟨qb, q, none⟩ = false := fun q => hrow.frozen q
      have FR : Hid (∃ f', (wr.setCell ⟨qb, i, none⟩ (.int .i64 (-7))).rowIs qb 3 (n + 1) f' ∧ ∀ q, q < i + 1 → f' q = neg7 q) := ⟨_, hrow.set i _, fun q hq => by
        by_cases e : q = i
        · rw [if_pos e]; rfl
        · rw [if_neg e]; exact hf q (by omega)⟩
      have FF : Hid (Fr (fun q => q = qb) w (wr.setCell ⟨qb, i, none⟩ (.int .i64 (-7)))) := hfr.setCell (a := ⟨qb, i, none⟩) (.inl rfl) _
      clear hrow hf hfr
      go_wp2
      go_roundw
      case rel => exact ⟨i + 1, by omega, by go_num, FR.out, FF.out⟩
      case measure => simp [intOf]; omega
    · obtain rfl : i = n + 1 := by omega
      have hmr : LM M wr Wb V C last := HM.out.other hfr (fun q h1 h2 => HX.out.2.1 (h2 ▸ h1))
      have her : LE (fun q => E q ∨ q = qb) wr C := (HE.out.other hfr (fun q h1 h2 => HX.out.2.2 (h2 ▸ h1))).mono (fun q h => .inl h)
      have hel : ElAt wr (fun q => E q ∨ q = qb) 3 1 neg7 (.slice (some ⟨qb, 0, none⟩) (n + 1) (n + 1)) := ⟨_, n + 1, _, rfl, by omega, fun _ => ⟨qb, rfl, .inr rfl, ⟨_, _, hrow⟩, fun q hq => (hrow.cell (by omega)).trans (by rw [hf q (by omega)])⟩⟩
      have HMR : Hid (LM M wr Wb V C last) := hmr
      have HER : Hid (LE (fun q => E q ∨ q = qb) wr C) := her
      have HEL : Hid _ := hel
      have HFR : Hid (Fr (fun q => q = qb) w wr) := hfr
      have a5 := hmr.cellW (i := 5) (by omega)
      have ho5 : wr.ownsRow 0 23 1 (V 5) (C 5).length (C 5) := hmr.own 5 (by omega)
      have hwl := hmr.row.lt
      clear hmr her hel hfr hrow hf hlt hi
      generalize hv5 : V 5 = ov at *
      go_wp2_with (at_builtin; refine wpList_append_own3 _ rfl _ _ 28 rfl 0 23 i6 (.slice none 0 0) 1 24 Tryz.underlying28 hi6 hz60 hz61 hz62 rfl (by decide) _ _ _ rfl (ho5.alloc _) ⟨wr.heap.size, 0, none⟩ 1 1 [.slice (some ⟨qb, 0, none⟩) (n + 1) (n + 1)] rfl rfl ?c1 ?c2 ?c3 ?c4 ?c5 ?_)
      any_goals (first | exact rfl | exact cell_one_at _ _ rfl _ _ | exact cell_one_at _ _ (by rw [Deep.nblk_setCell]) _ _ | exact one_oneCell rfl | (unfold maxLen; omega) | omega)
      intro v5 w5 hown5 hg5
      have hmb := HMR.out.below (below_alloc1 wr (.cells #[.slice (some ⟨qb, 0, none⟩) (n + 1) (n + 1)] 23))
      rw [← hv5] at hg5
      obtain ⟨hp1, hp2⟩ := hmb.push (i := 5) (by omega) hown5 hg5
      have hrow5 := hmb.row' (i := 5) (by omega) hg5
      obtain ⟨g5, cap5, hvv⟩ := own_slice hown5
      rw [hvv] at hp1 hp2 ⊢
      have b5 : w5.cell? ⟨Wb, 5, none⟩ = some ov := by rw [hrow5.cell (by omega)]; show some (V 5) = _; rw [hv5]
      have bz : ∀ q, w5.frozen? ⟨Wb, q, none⟩ = false := fun q => hrow5.frozen q
      have hwl5 := hrow5.lt
      have hfrT : Fr (fun q => M q ∨ q = qb) w (w5.setCell ⟨Wb, 5, none⟩ (.slice (some ⟨g5, 0, none⟩) ((C 5).length + 1) cap5)) := ((HFR.out.mono (fun q h => .inr h)).alloc _).then (hp2.mono (fun q h => .inl h))
      have hgz : w5.heap.size ≤ (w5.setCell ⟨Wb, 5, none⟩ (.slice (some ⟨g5, 0, none⟩) ((C 5).length + 1) cap5)).heap.size := by rw [Deep.nblk_setCell]; exact Nat.le_refl _
      have HFIN : Hid (∃ v', LM (Nx M w.heap.size (w5.setCell ⟨Wb, 5, none⟩ (.slice (some ⟨g5, 0, none⟩) ((C 5).length + 1) cap5)).heap.size) (w5.setCell ⟨Wb, 5, none⟩ (.slice (some ⟨g5, 0, none⟩) ((C 5).length + 1) cap5)) Wb (upd V 5 v') (upd C 5 (C 5 ++ [.slice (some ⟨qb, 0, none⟩) (n + 1) (n + 1)])) last ∧ LE (fun q => E q ∨ q = qb) (w5.setCell ⟨Wb, 5, none⟩ (.slice (some ⟨g5, 0, none⟩) ((C 5).length + 1) cap5)) (upd C 5 (C 5 ++ [.slice (some ⟨qb, 0, none⟩) (n + 1) (n + 1)])) ∧ Fr (fun q => M q ∨ q = qb) w (w5.setCell ⟨Wb, 5, none⟩ (.slice (some ⟨g5, 0, none⟩) ((C 5).length + 1) cap5))) := by
        refine ⟨_, hp1.mono (fun q h => ?_), ?_, hfrT⟩
        · rcases h with h | h
          · exact .inl h
          · have h1 := HFR.out.size
            have h2 := h.1
            rw [Deep.nblk_alloc] at h2
            exact .inr ⟨by omega, Nat.lt_of_lt_of_le h.2 hgz⟩
        · have hE0 : Dis (fun q => E q ∨ q = qb) M := fun q h1 h2 => by
            rcases h1 with h1 | h1
            · exact HX.out.1 q h2 h1
            · exact HX.out.2.1 (h1 ▸ h2)
          have h1 := ((HER.out.addT HEL.out).other (Fr.of_below (fun _ => False) (below_alloc1 wr _)) (fun _ _ g => g)).other hp2 hE0
          exact h1
      clear hp1 hp2 hown5 hg5 hmb hrow5 hvv hfrT hgz a5 ho5
      go_wp2
      go_ret
      exact ⟨rfl, HFIN.out⟩

end Go.Proofs.YtdabcflpcklfiaaGreat

/- The law: a list of jobs is marked and kept. -/
namespace Go.Proofs.YtdabcflpcklfiaaGreat
open Go.RowKit Cad

theorem own_of_row {w : World} {g n : Nat} {f : Nat → Value} {u : Value} (hn : n ≤ maxLen) (h : w.rowIs g 93 (n * 5) f) (hf : ∀ q, q < n * 5 → f q = u) : w.ownsRow 0 93 5 (.slice (some ⟨g, 0, none⟩) n n) n (List.replicate (n * 5) u) := by
  obtain ⟨c, hc, hcs, hcf⟩ := h
  refine ⟨by rw [List.length_replicate], .inr ⟨g, n, c, rfl, Nat.zero_le _, hc, Nat.le_refl _, hn, hcs, ?_⟩⟩
  apply List.ext_getElem?
  intro q
  rw [List.getElem?_take]
  by_cases c2 : q < n * 5
  · rw [if_pos c2, List.getElem?_replicate, if_pos c2, Array.getElem?_toList, hcf q c2, hf q c2]
  · rw [if_neg c2, List.getElem?_replicate, if_neg c2]

theorem own_el {w : World} {E : Nat → Prop} {l : Value} {n : Nat} {u : Value} (hn : n ≤ 100000000000000) (h : w.ownsRow 0 93 5 l n (List.replicate (n * 5) u)) (hE : ∀ b, l.ownBlock = some b → E b) : ElAt w E 93 5 (fun _ => u) l := by
  rcases h.2 with ⟨hv, h0⟩ | ⟨g, cap, cur, hv, _, hg, _⟩
  · exact ⟨none, 0, 0, hv, by omega, fun h1 => by omega⟩
  · refine ⟨_, n, cap, hv, hn, fun _ => ⟨g, rfl, hE g (by rw [hv]; rfl), own_rowE h (by rw [hv]; rfl), fun q hq => ?_⟩⟩
    have := h.cells (g := g) (by rw [hv]; rfl) q u (by rw [List.getElem?_replicate, if_pos hq])
    rw [Addr.add_lit, Nat.zero_add] at this
    exact this

theorem ElAt.grew {w w' : World} {E : Nat → Prop} {ty size n m : Nat} {f : Nat → Value} {v l l' : Value} {xs ys : List Value} (h : ElAt w E ty size f v) (hg : Grew w w' l l') (ho : w.ownsRow 0 93 5 l n xs) (ho' : w'.ownsRow 0 93 5 l' (n + m) (xs ++ ys))
    (hv : ty = 93 → size = 5 ∧ ∀ ao len cap, v = .slice ao len cap → v.ownBlock = l.ownBlock → l.ownBlock ≠ none → len ≤ n) : ElAt w' E ty size f v := by
  obtain ⟨ao, len, cap, e, hl, hc⟩ := h
  refine ⟨ao, len, cap, e, hl, fun h1 => ?_⟩
  obtain ⟨g, e1, e2, ⟨sz, F, hr⟩, hq⟩ := hc h1
  have hvb : v.ownBlock = some g := by rw [e, e1]; rfl
  refine ⟨g, e1, e2, ?_, fun q hq' => hg.cell ho ho' (hq q hq') (fun hlb => ?_)⟩
  · by_cases c : l.ownBlock = some g
    · rcases hg.at' with g1 | ⟨_, g1⟩
      · obtain ⟨_, _, hr2⟩ := own_rowE ho c
        have : ty = 93 := by
          by_cases c2 : ty = 93
          · exact c2
          · exact absurd rfl (row_ne hr hr2 c2)
        subst this
        exact own_rowE ho' (g1.trans c)
      · exact ⟨sz, F, hr.of_block (g1.block g hr.lt (by simp))⟩
    · exact ⟨sz, F, hr.of_block (hg.by'.block g hr.lt (fun e => c e.symm))⟩
  · obtain ⟨_, _, hr2⟩ := own_rowE ho hlb
    have : ty = 93 := by
      by_cases c2 : ty = 93
      · exact c2
      · exact absurd rfl (row_ne hr hr2 c2)
    obtain ⟨rfl, h3⟩ := hv this
    have := h3 ao len cap e (hvb.trans hlb.symm) (by rw [hlb]; simp)
    omega

theorem LE.grew {w w' : World} {E : Nat → Prop} {C : Nat → List Value} {n m : Nat} {l l' : Value} {xs ys : List Value} (h : LE E w C) (hg : Grew w w' l l') (ho : w.ownsRow 0 93 5 l n xs) (ho' : w'.ownsRow 0 93 5 l' (n + m) (xs ++ ys))
    (hv : ∀ v ∈ C 1, ∀ ao len cap, v = .slice ao len cap → v.ownBlock = l.ownBlock → l.ownBlock ≠ none → len ≤ n) : LE E w' C where
  jlen := h.jlen
  je i v hx := by
    obtain ⟨mk, e1, e2⟩ := h.je i v hx
    exact ⟨mk, e1, e2.grew hg ho ho' (fun _ => ⟨rfl, hv v (List.mem_of_getElem? hx)⟩)⟩
  ilen := h.ilen
  ie i v hx := by
    obtain ⟨mk, e1, e2⟩ := h.ie i v hx
    exact ⟨mk, e1, e2.grew hg ho ho' (fun e => absurd e (by decide))⟩
  te v hx := (h.te v hx).grew hg ho ho' (fun e => absurd e (by decide))
  pe v hx := (h.pe v hx).grew hg ho ho' (fun e => absurd e (by decide))
  ke v hx := (h.ke v hx).grew hg ho ho' (fun e => absurd e (by decide))

theorem row5 (w : World) (a b c d e : Value) (t : Nat) : (w.alloc (.cells #[a, b, c, d, e] t)).rowIs w.heap.size t 5 (fun q => if q = 0 then a else if q = 1 then b else if q = 2 then c else if q = 3 then d else e) :=
  World.rowIs_alloc w #[a, b, c, d, e] t _ (fun i hi => by
    have hi' : i < 5 := hi
    match i, hi' with
    | 0, _ => rfl
    | 1, _ => rfl
    | 2, _ => rfl
    | 3, _ => rfl
    | 4, _ => rfl)

/-- While the marked list is kept: everything. -/
structure KJ (w wr : World) (Wb g n j bj : Nat) (M E M' E' : Nat → Prop) (V V' : Nat → Value) (C C' : Nat → List Value) (last mk : Int) (l : Value) : Prop where
  lm : LM M' wr Wb V' C' last
  le : LE E' wr C'
  dis : Dis M' E'
  mf : ∀ q, M' q → M q ∨ (w.heap.size ≤ q ∧ q < wr.heap.size)
  ef : ∀ q, E' q → E q ∨ q = g ∨ (w.heap.size ≤ q ∧ q < wr.heap.size)
  fr : Fr (fun q => M q ∨ q = g) w wr
  own : wr.ownsRow 0 93 5 l (n + j) (List.replicate ((n + j) * 5) (.int .i64 mk))
  lb : ∀ b, l.ownBlock = some b → ¬ M' b ∧ b ≠ bj ∧ (b = g ∨ w.heap.size ≤ b)
  les : ∀ v ∈ C' 1, ∀ ao len cap, v = .slice ao len cap → v.ownBlock = l.ownBlock → l.ownBlock ≠ none → len ≤ n + j
  box : wr.rowIs bj 93 5 (fun _ => .int .i64 mk)
  bb : w.heap.size ≤ bj ∧ ¬ M' bj ∧ ¬ E' bj
  c0 : C' 0 = C 0 ∧ V' 0 = V 0
  cl : ∀ i, i < 8 → (C' i).length ≤ (C i).length + j
  loM : Lo M' wr.heap.size
  loE : Lo E' wr.heap.size

theorem rep5 (n : Nat) (u : Value) : List.replicate (n * 5) u ++ [u, u, u, u, u] = List.replicate ((n + 1) * 5) u := by
  rw [show (n + 1) * 5 = n * 5 + 5 by omega, ← List.replicate_append_replicate]
  rfl

theorem KJ.step {w wr wA wB wC : World} {Wb g n j bj : Nat} {M E M' E' : Nat → Prop} {V V' : Nat → Value} {C C' : Nat → List Value} {last mk : Int} {l vA vB l' : Value} {oA oB oC : Obj} (h : KJ w wr Wb g n j bj M E M' E' V V' C C' last mk l) (hn : n + j ≤ 100000000000)
    (hownA : wA.ownsRow 0 90 1 vA ((C' 1).length + 1) (C' 1 ++ [l])) (hgA : Grew (wr.alloc oA) wA (V' 1) vA)
    (hownB : wB.ownsRow 0 3 1 vB ((C' 2).length + 1) (C' 2 ++ [.int .i64 mk])) (hgB : Grew ((wA.setCell ⟨Wb, 1, none⟩ vA).alloc oB) wB (V' 2) vB)
    (hownC : wC.ownsRow 0 93 5 l' (n + j + 1) (List.replicate ((n + j) * 5) (.int .i64 mk) ++ [.int .i64 mk, .int .i64 mk, .int .i64 mk, .int .i64 mk, .int .i64 mk])) (hgC : Grew ((wB.setCell ⟨Wb, 2, none⟩ vB).alloc oC) wC l l') :
    ∃ M'' E'', KJ w wC Wb g n (j + 1) bj M E M'' E'' V (upd (upd V' 1 vA) 2 vB) C (upd (upd C' 1 (C' 1 ++ [l])) 2 (C' 2 ++ [.int .i64 mk])) last mk l' := by
  have hlm0 := h.lm.below (below_alloc1 wr oA)
  obtain ⟨pA1, pA2⟩ := hlm0.push (i := 1) (by omega) (us := [l]) hownA hgA
  have hlm1 := pA1.below (below_alloc1 (wA.setCell ⟨Wb, 1, none⟩ vA) oB)
  have e2 : upd C' 1 (C' 1 ++ [l]) 2 = C' 2 := upd_other _ _ (by decide)
  have e3 : upd V' 1 vA 2 = V' 2 := upd_other _ _ (by decide)
  have hpB := hlm1.push (i := 2) (by omega) (us := [.int .i64 mk]) (v5 := vB) (w5 := wB) (by rw [e2]; exact hownB) (by rw [e3]; exact hgB)
  rw [e2] at hpB
  obtain ⟨pB1, pB2⟩ := hpB
  have s0 : (wr.alloc oA).heap.size = wr.heap.size + 1 := Deep.nblk_alloc _ _
  have s1 : (wA.setCell ⟨Wb, 1, none⟩ vA).heap.size = wA.heap.size := Deep.nblk_setCell _ _ _
  have s2 : ((wA.setCell ⟨Wb, 1, none⟩ vA).alloc oB).heap.size = wA.heap.size + 1 := by rw [Deep.nblk_alloc, s1]
  have s3 : (wB.setCell ⟨Wb, 2, none⟩ vB).heap.size = wB.heap.size := Deep.nblk_setCell _ _ _
  have s4 : ((wB.setCell ⟨Wb, 2, none⟩ vB).alloc oC).heap.size = wB.heap.size + 1 := by rw [Deep.nblk_alloc, s3]
  have z1 := hgA.by'.size
  have z2 := hgB.by'.size
  have z3 := hgC.by'.size
  rw [s0] at z1
  rw [s2] at z2
  rw [s4] at z3
  have zw := h.fr.size
  -- what has turned so far
  have hf1 : Fr M' wr (wB.setCell ⟨Wb, 2, none⟩ vB) := by
    have a1 : Fr M' wr ((wA.setCell ⟨Wb, 1, none⟩ vA).alloc oB) := ((((Fr.refl M' wr).alloc oA).then pA2)).alloc oB
    refine a1.trans pB2 (fun q hq => ?_)
    rcases hq with hq | hq
    · exact .inl hq
    · rw [s0] at hq; exact .inr (by omega)
  have hf2 : Fr M' wr ((wB.setCell ⟨Wb, 2, none⟩ vB).alloc oC) := hf1.alloc oC
  have hlb : ∀ b, l.ownBlock = some b → b < wr.heap.size := fun b hb => (h.own.lt b hb).2
  have hownl : ((wB.setCell ⟨Wb, 2, none⟩ vB).alloc oC).ownsRow 0 93 5 l (n + j) (List.replicate ((n + j) * 5) (.int .i64 mk)) := own_same h.own (fun b hb => hf2.block b (hlb b hb) (h.lb b hb).1)
  have hle1 := ((h.le.other hf2 h.dis.symm).mono (E' := fun q => E' q ∨ l.ownBlock = some q) (fun q hq => .inl hq)).addJ (mk := mk) (own_el (E := fun q => E' q ∨ l.ownBlock = some q) (by omega) hownl (fun b hb => .inr hb))
  obtain ⟨ll, cl', hlsh⟩ := own_shapeK h.own
  have hC1 : (upd (upd C' 1 (C' 1 ++ [l])) 2 (C' 2 ++ [.int .i64 mk])) 1 = C' 1 ++ [l] := by rw [upd_other _ _ (by decide), upd_same]
  have hles1 : ∀ v ∈ C' 1 ++ [l], ∀ ao len cap, v = .slice ao len cap → v.ownBlock = l.ownBlock → l.ownBlock ≠ none → len ≤ n + j := by
    intro v hv ao len cap e1 e2 e3
    rcases List.mem_append.1 hv with hv | hv
    · exact h.les v hv ao len cap e1 e2 e3
    · rw [List.mem_singleton.1 hv, hlsh] at e1
      cases e1
      exact Nat.le_refl _
  have hle2 := hle1.grew hgC hownl hownC (by rw [hC1]; exact hles1)
  have hMB : ∀ q, Nx (Nx M' (wr.alloc oA).heap.size wA.heap.size) ((wA.setCell ⟨Wb, 1, none⟩ vA).alloc oB).heap.size wB.heap.size q → M' q ∨ (wr.heap.size < q ∧ q < wB.heap.size) := by
    intro q hq
    rcases hq with (hq | hq) | hq
    · exact .inl hq
    · rw [s0] at hq; exact .inr (by omega)
    · rw [s2] at hq; exact .inr (by omega)
  have hlm2 := (pB1.below (below_alloc1 (wB.setCell ⟨Wb, 2, none⟩ vB) oC)).other (Fr.of_grown hgC.by') (fun q hq hb => by
    rcases hMB q hq with g1 | g1
    · exact (h.lb q hb).1 g1
    · have := hlb q hb; omega)
  have hrowb : wC.rowIs bj 93 5 (fun _ => .int .i64 mk) := by
    have hbjl := h.box.lt
    have r1 : ((wB.setCell ⟨Wb, 2, none⟩ vB).alloc oC).rowIs bj 93 5 (fun _ => .int .i64 mk) := h.box.of_block (hf2.block bj hbjl h.bb.2.1)
    refine r1.of_block (hgC.by'.block bj (by omega) (fun e => (h.lb bj e.symm).2.1 rfl))
  refine ⟨_, fun q => E' q ∨ l.ownBlock = some q, hlm2, hle2, fun q hq he => ?_, fun q hq => ?_, fun q hq => ?_, ?_, ?_, fun b hb => ?_, fun v hv ao len cap e1 e2 e3 => ?_, hrowb, ⟨h.bb.1, fun hq => ?_, fun hq => ?_⟩, ?_, fun i hi => ?_, fun q hq => ?_, fun q hq => ?_⟩
  · rcases hMB q hq with g1 | g1
    · rcases he with he | he
      · exact h.dis q g1 he
      · exact (h.lb q he).1 g1
    · rcases he with he | he
      · have := h.loE q he; omega
      · have := hlb q he; omega
  · rcases hMB q hq with g1 | g1
    · rcases h.mf q g1 with g2 | g2
      · exact .inl g2
      · exact .inr (by omega)
    · exact .inr (by omega)
  · rcases hq with hq | hq
    · rcases h.ef q hq with g2 | g2 | g2
      · exact .inl g2
      · exact .inr (.inl g2)
      · exact .inr (.inr (by omega))
    · have hlt := hlb q hq
      rcases (h.lb q hq).2.2 with g2 | g2
      · exact .inr (.inl g2)
      · exact .inr (.inr (by omega))
  · have f1 : Fr (fun q => M q ∨ q = g) w ((wB.setCell ⟨Wb, 2, none⟩ vB).alloc oC) := h.fr.trans hf2 (fun q hq => by
      rcases h.mf q hq with g2 | g2
      · exact .inl (.inl g2)
      · exact .inr g2.1)
    exact f1.trans (Fr.of_grown hgC.by') (fun q hq => by
      rcases (h.lb q hq).2.2 with g2 | g2
      · exact .inl (.inr g2)
      · exact .inr g2)
  · rw [rep5] at hownC
    exact hownC
  · rcases hgC.at' with g1 | ⟨g1, _⟩
    · rw [g1] at hb
      obtain ⟨q1, q2, q3⟩ := h.lb b hb
      refine ⟨fun hq => ?_, q2, q3⟩
      rcases hMB b hq with g2 | g2
      · exact q1 g2
      · have := hlb b hb; omega
    · rw [g1] at hb
      cases hb
      rw [s4]
      refine ⟨fun hq => ?_, by have := h.box.lt; omega, .inr (by omega)⟩
      rcases hMB _ hq with g2 | g2
      · have := h.loM _ g2; omega
      · omega
  · rw [hC1] at hv
    rcases hgC.at' with g1 | ⟨g1, _⟩
    · rw [g1] at e2 e3
      have := hles1 v hv ao len cap e1 e2 e3
      omega
    · by_cases c : 1 ≤ len
      · have hvlt : ∀ b, v.ownBlock = some b → b < wr.heap.size := by
          intro b hb
          rcases List.mem_append.1 hv with hv | hv
          · obtain ⟨i, hi, ei⟩ := List.getElem_of_mem hv
            obtain ⟨_, _, ao', len', cap', ee, _, hc⟩ := h.le.je i v (by rw [List.getElem?_eq_getElem hi, ei])
            rw [e1] at ee
            cases ee
            obtain ⟨g', ea, _, ⟨_, _, hr⟩, _⟩ := hc c
            rw [e1, ea] at hb
            cases hb
            exact hr.lt
          · rw [List.mem_singleton.1 hv] at hb
            exact hlb b hb
        rw [g1] at e2
        have := hvlt _ e2
        rw [s4] at this
        omega
      · omega
  · rcases hMB bj hq with g1 | g1
    · exact h.bb.2.1 g1
    · have := h.box.lt; omega
  · rcases hq with hq | hq
    · exact h.bb.2.2 hq
    · exact (h.lb bj hq).2.1 rfl
  · exact ⟨by rw [upd_other _ _ (by decide), upd_other _ _ (by decide)]; exact h.c0.1, by rw [upd_other _ _ (by decide), upd_other _ _ (by decide)]; exact h.c0.2⟩
  · have hcl := h.cl i hi
    by_cases c2 : i = 2
    · subst c2
      rw [upd_same, List.length_append, List.length_singleton]
      omega
    · rw [upd_other _ _ c2]
      by_cases c1 : i = 1
      · subst c1
        rw [upd_same, List.length_append, List.length_singleton]
        omega
      · rw [upd_other _ _ c1]
        omega
  · rcases hMB q hq with g1 | g1
    · have := h.loM q g1; omega
    · omega
  · rcases hq with hq | hq
    · have := h.loE q hq; omega
    · have := hlb q hq; omega

end Go.Proofs.YtdabcflpcklfiaaGreat
