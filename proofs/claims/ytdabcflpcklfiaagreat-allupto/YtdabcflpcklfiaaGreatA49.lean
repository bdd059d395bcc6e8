import Derived.Test.YtdabcflpcklfiaaGreatA40
import Derived.Test.YtdabcflpcklfiaaGreatA25
import Derived.Test.YtdabcflpcklfiaaGreatA48
/- The document's New: its own copy of the tasks. -/
namespace Go.Proofs.YtdabcflpcklfiaaGreat
open Go.RowKit Cad

def tkc (T : TD) (A : Nat → Nat × Nat) (j : Nat) : List Value := [.int .i64 (T.P j), .int .i64 (T.D j), .int .i64 (T.J j), .slice (some ⟨(A j).1, 0, none⟩) (T.L j) (A j).2]
def tkCs (T : TD) (A : Nat → Nat × Nat) : Nat → List Value
  | 0 => []
  | i + 1 => tkCs T A i ++ tkc T A i

theorem tkCs_len (T : TD) (A : Nat → Nat × Nat) : ∀ i, (tkCs T A i).length = i * 4
  | 0 => rfl
  | i + 1 => by
    show (tkCs T A i ++ tkc T A i).length = _
    rw [List.length_append, tkCs_len T A i]
    show i * 4 + 4 = _
    omega

theorem tkCs_get (T : TD) (A : Nat → Nat × Nat) {j c : Nat} (hc : c < 4) : ∀ i, j < i → (tkCs T A i)[j * 4 + c]? = (tkc T A j)[c]?
  | 0, h => by omega
  | i + 1, h => by
    show (tkCs T A i ++ tkc T A i)[j * 4 + c]? = _
    by_cases e : j < i
    · rw [List.getElem?_append_left (by rw [tkCs_len]; omega)]
      exact tkCs_get T A hc i e
    · have : j = i := by omega
      subst this
      rw [List.getElem?_append_right (by rw [tkCs_len]; omega), tkCs_len, show j * 4 + c - j * 4 = c by omega]

theorem tkCs_congr {T : TD} {A A' : Nat → Nat × Nat} : ∀ i, (∀ j, j < i → A j = A' j) → tkCs T A i = tkCs T A' i
  | 0, _ => rfl
  | i + 1, h => by
    show tkCs T A i ++ tkc T A i = tkCs T A' i ++ tkc T A' i
    rw [tkCs_congr i (fun j hj => h j (by omega))]
    unfold tkc
    rw [h i (by omega)]

def steC (K N : Nat → Int) (L : Nat) : List Value := (List.range (L * 2)).map (pf K N)
def priC (Z : Nat → Int) (n : Nat) : List Value := (List.range n).map fun q => .int .i64 (Z q)

theorem row_newA {w : World} {e n : Nat} {cur : Array Value} (hs : cur.size = n) : (w.alloc (.cells cur e)).rowIs w.heap.size e n (fun q => cur.toList.getD q (.int .i64 0)) := by
  have := World.rowIs_alloc w cur e (fun q => cur.toList.getD q (.int .i64 0)) (fun i hi => by simp [List.getD, hi])
  rw [hs] at this
  exact this

/-- What stands while the tasks are copied. -/
structure NInv (w wr : World) (kb n i : Nat) (T : TD) (Z : Nat → Int) (tv pv : Value) (A : Nat → Nat × Nat) : Prop where
  below : Below w.heap.size w wr
  row : wr.rowIs kb 116 6 (rkcell tv pv (.slice none 0 0) rstart)
  kbl : w.heap.size ≤ kb
  town : wr.ownsRow w.heap.size 77 4 tv i (tkCs T A i)
  pown : wr.ownsRow w.heap.size 3 1 pv n (priC Z n)
  st : ∀ j, j < i → w.heap.size ≤ (A j).1 ∧ (∃ sz F, wr.rowIs (A j).1 86 sz F) ∧ ∀ q, q < T.L j * 2 → wr.cell? ⟨(A j).1, q, none⟩ = some (pf (T.K j) (T.N j) q)

theorem NInv.step {w wr wS wx wT : World} {kb n i g cs : Nat} {T : TD} {Z : Nat → Int} {tv pv tv' : Value} {A : Nat → Nat × Nat} {oB : Array Value} (h : NInv w wr kb n i T Z tv pv A) (hoB : oB.size = 4)
    (hownS : wS.ownsRow w.heap.size 86 2 (.slice (some ⟨g, 0, none⟩) (T.L i) cs) (T.L i) (steC (T.K i) (T.N i) (T.L i))) (hgS : Grew (wr.alloc (.cells oB 77)) wS (.slice none 0 0) (.slice (some ⟨g, 0, none⟩) (T.L i) cs))
    (hownT : wT.ownsRow w.heap.size 77 4 tv' (i + 1) (tkCs T A i ++ tkc T (upd A i (g, cs)) i)) (hgT : Grew wx wT tv tv') (hbx : Below (wS.setCell ⟨wr.heap.size, 3, none⟩ (.slice (some ⟨g, 0, none⟩) (T.L i) cs)).heap.size (wS.setCell ⟨wr.heap.size, 3, none⟩ (.slice (some ⟨g, 0, none⟩) (T.L i) cs)) wx) :
    NInv w (wT.setCell ⟨kb, 0, none⟩ tv') kb n (i + 1) T Z tv' pv (upd A i (g, cs)) := by
  have hwz := h.below.size
  have z0 : (wr.alloc (.cells oB 77)).heap.size = wr.heap.size + 1 := Deep.nblk_alloc _ _
  have z1 := hgS.by'.size
  rw [z0] at z1
  have hbox : wS.rowIs wr.heap.size 77 4 (fun q => oB.toList.getD q (.int .i64 0)) := by
    have r0 : (wr.alloc (.cells oB 77)).rowIs wr.heap.size 77 4 (fun q => oB.toList.getD q (.int .i64 0)) := row_newA hoB
    exact r0.of_block (hgS.by'.block _ (by omega) (by simp [Value.ownBlock]))
  have hgrow := own_rowE hownS (b := g) rfl
  obtain ⟨_, _, hgr⟩ := hgrow
  have hgb : g ≠ wr.heap.size := row_ne hgr hbox (by decide)
  have hgl : g < wS.heap.size := hgr.lt
  have hgge : wr.heap.size + 1 ≤ g := by
    rcases hgS.lt (b := g) rfl with e | e
    · simp [Value.ownBlock] at e
    · omega
  have hf1 : Fr (fun q => tv.ownBlock = some q ∨ q = kb) wr wx := by
    have a1 : Fr (fun _ => False) wr wS := ((Fr.refl _ wr).alloc _).then ((Fr.of_grown hgS.by').mono (fun b e => by simp [Value.ownBlock] at e))
    exact ((a1.mono (fun b e => e.elim)).setCell (a := ⟨wr.heap.size, 3, none⟩) (.inr (Nat.le_refl _)) _).then (Fr.of_below _ hbx)
  have hf2 : Fr (fun q => tv.ownBlock = some q ∨ q = kb) wr wT := hf1.then ((Fr.of_grown hgT.by').mono (fun b e => .inl e))
  have hf3 : Fr (fun q => tv.ownBlock = some q ∨ q = kb) wr (wT.setCell ⟨kb, 0, none⟩ tv') := hf2.setCell (a := ⟨kb, 0, none⟩) (.inl (.inr rfl)) _
  have hkt : tv.ownBlock ≠ some kb := fun e => by
    obtain ⟨_, _, hr⟩ := own_rowE h.town e
    exact row_ne hr h.row (by decide) rfl
  have hrowT : wT.rowIs kb 116 6 (rkcell tv pv (.slice none 0 0) rstart) := by
    have r1 : wx.rowIs kb 116 6 (rkcell tv pv (.slice none 0 0) rstart) := by
      have a1 : wS.rowIs kb 116 6 (rkcell tv pv (.slice none 0 0) rstart) := (h.row.alloc _).of_block (hgS.by'.block _ (by have := h.row.lt; omega) (by simp [Value.ownBlock]))
      have a2 := a1.setOther (a := ⟨wr.heap.size, 3, none⟩) (by have := h.row.lt; show kb ≠ wr.heap.size; omega) (.slice (some ⟨g, 0, none⟩) (T.L i) cs)
      exact a2.of_block (hbx.block kb a2.lt)
    exact r1.of_block (hgT.by'.block kb r1.lt (fun e => hkt e.symm))
  have hX : ∀ b t N F, wr.rowIs b t N F → t ≠ 116 → t ≠ 77 → ¬ (tv.ownBlock = some b ∨ b = kb) := by
    rintro b t N F hr h1 h2 (e | e)
    · obtain ⟨_, _, hr2⟩ := own_rowE h.town e
      exact row_ne hr hr2 h2 rfl
    · exact row_ne hr h.row h1 e
  refine ⟨h.below.trans (hf3.below hwz (fun q hq => ?_)), (hrowT.set 0 tv').congr (fun p hp => ?_), h.kbl, ?_, ?_, fun j hj => ?_⟩
  · rcases hq with e | e
    · exact (h.town.lt q e).1
    · rw [e]; exact h.kbl
  · match p, hp with
    | 0, _ => rfl
    | 1, _ => rfl
    | 2, _ => rfl
    | 3, _ => rfl
    | 4, _ => rfl
    | 5, _ => rfl
  · have e1 : tkCs T (upd A i (g, cs)) (i + 1) = tkCs T A i ++ tkc T (upd A i (g, cs)) i := by
      show tkCs T (upd A i (g, cs)) i ++ _ = _
      rw [tkCs_congr (A' := A) i (fun j hj => upd_other _ _ (by omega))]
    rw [e1]
    exact own_setOther hownT hrowT (by decide) tv'
  · refine own_same h.pown (fun b hb => ?_)
    obtain ⟨_, _, hr⟩ := own_rowE h.pown hb
    exact hf3.block b hr.lt (hX b _ _ _ hr (by decide) (by decide))
  · by_cases e : j = i
    · subst e
      rw [upd_same]
      have hblk : (wT.setCell ⟨kb, 0, none⟩ tv').heap[g]? = wS.heap[g]? := by
        have b1 : (wT.setCell ⟨kb, 0, none⟩ tv').heap[g]? = wT.heap[g]? := Deep.blk_setCell_other _ _ _ _ (fun e => by have e' : g = kb := e; have := h.row.lt; omega)
        have hzx := hbx.size
        rw [Deep.nblk_setCell] at hzx
        have b2 : wT.heap[g]? = wx.heap[g]? := hgT.by'.block g (by omega) (fun e => by
          have := (h.town.lt g e.symm).2
          omega)
        have b3 : wx.heap[g]? = wS.heap[g]? := (hbx.block g (by rw [Deep.nblk_setCell]; exact hgl)).trans (Deep.blk_setCell_other _ _ _ _ hgb)
        rw [b1, b2, b3]
      refine ⟨(hownS.lt g rfl).1, ⟨_, _, hgr.of_block hblk⟩, fun q hq => (cell_same hblk).trans ?_⟩
      have := hownS.cells (g := g) rfl q (pf (T.K j) (T.N j) q) (by unfold steC; simp [hq])
      rw [Addr.add_lit, Nat.zero_add] at this
      exact this
    · rw [upd_other _ _ e]
      obtain ⟨q1, ⟨sz, F, q2⟩, q3⟩ := h.st j (by omega)
      have hb := hf3.block _ q2.lt (hX _ _ _ _ q2 (by decide) (by decide))
      exact ⟨q1, ⟨sz, F, q2.of_block hb⟩, fun q hq => (cell_same hb).trans (q3 q hq)⟩

/-- The tasks with their programs elsewhere. -/
def TD.moved (T : TD) (A : Nat → Nat × Nat) : TD := { T with A := fun t => some ⟨(A t).1, 0, none⟩, C := fun t => (A t).2 }

theorem NInv.done {w wr : World} {kb n : Nat} {T : TD} {Z : Nat → Int} {tv pv : Value} {A : Nat → Nat × Nat} (h : NInv w wr kb n n T Z tv pv A) (hG : Good T n) (hP : PrioB Z n) (hL : ∀ t, t < n → T.L t ≤ 9223372036854775806) : RG (fun q => w.heap.size ≤ q ∧ q < wr.heap.size) wr kb (sysOf T Z n) Cad.start := by
  obtain ⟨tb, tc, rfl, t1, t2⟩ := own_some h.town hG.one
  obtain ⟨pb, pc, rfl, p1, p2⟩ := own_some h.pown hG.one
  have htask : TasksAt wr tb 0 n (T.moved A) := by
    intro t ht
    have hc : ∀ c u, c < 4 → (tkc T A t)[c]? = some u → wr.cell? ⟨tb, t * 4 + c, none⟩ = some u := by
      intro c u hc hu
      have := h.town.cells (g := tb) rfl (t * 4 + c) u (by rw [tkCs_get T A hc n ht]; exact hu)
      rw [Addr.add_lit, Nat.zero_add] at this
      exact this
    rw [Nat.zero_add]
    refine ⟨hc 0 _ (by omega) rfl, hc 1 _ (by omega) rfl, hc 2 _ (by omega) rfl, hc 3 _ (by omega) rfl, hL t ht, fun _ => ?_⟩
    obtain ⟨_, ⟨_, _, s2⟩, s3⟩ := h.st t ht
    refine ⟨(A t).1, 0, rfl, s2.lt, fun q hq => ?_⟩
    have hq' : q < T.L t := hq
    have a0 := s3 (q * 2) (by omega)
    have a1 := s3 (q * 2 + 1) (by omega)
    rw [Nat.zero_add]
    refine ⟨a0.trans ?_, a1.trans ?_⟩
    · unfold pf
      rw [if_pos (by omega), show q * 2 / 2 = q by omega]
      rfl
    · unfold pf
      rw [if_neg (by omega), show (q * 2 + 1) / 2 = q by omega]
      rfl
  have hprio : IntsAt wr pb 0 n Z := by
    intro q hq
    have := h.pown.cells (g := pb) rfl q (.int .i64 (Z q)) (by unfold priC; simp [hq])
    rw [Addr.add_lit] at this
    exact this
  refine ⟨w.heap.size, tb, tc, pb, pc, n, T.moved A, Z, rstart, .slice none 0 0, fun _ => (none, 0), ?_⟩
  exact {
    sy := rfl
    good := ⟨hG.one, hG.eight, hG.prog, hG.times⟩
    prio := hP
    base := h.below.size
    mem := ⟨h.row, t2, p2, htask, hprio, World.ownsRow_nil _ _ _ _, fun i x hx => by simp [rstart] at hx⟩
    kinds := ⟨own_rowE h.town rfl, own_rowE h.pown rfl, fun t ht a ha => by
      cases ha
      exact (h.st t ht).2.1, fun i x hx => by simp [rstart] at hx⟩
    rr := rr_start _
    fy := ⟨h.kbl, h.row.lt⟩
    ft := ⟨t1, t2⟩
    fp := ⟨p1, p2⟩
    fs := fun t ht a ha => by
      cases ha
      obtain ⟨q1, ⟨_, _, q2⟩, _⟩ := h.st t ht
      exact ⟨q1, q2.lt⟩
    fj := fun b hb => by simp [Value.ownBlock] at hb
    fd := fun i x hx => by simp [rstart] at hx }

theorem row6 (w : World) (a b c d e f : Value) (t : Nat) : (w.alloc (.cells #[a, b, c, d, e, f] t)).rowIs w.heap.size t 6 (fun q => if q = 0 then a else if q = 1 then b else if q = 2 then c else if q = 3 then d else if q = 4 then e else f) :=
  World.rowIs_alloc w #[a, b, c, d, e, f] t _ (fun i hi => by
    have hi' : i < 6 := hi
    match i, hi' with
    | 0, _ => rfl
    | 1, _ => rfl
    | 2, _ => rfl
    | 3, _ => rfl
    | 4, _ => rfl
    | 5, _ => rfl)

theorem cells4_at (X : World) (n : Nat) (hn : n = X.heap.size) (a b c d : Value) (t : Nat) : ∀ (j : Nat) (u : Value), [a, b, c, d][j]? = some u → (X.alloc (.cells #[a, b, c, d] t)).cell? ((⟨n, 0, none⟩ : Addr).add j) = some u := by
  subst hn
  intro j u hu
  rw [Addr.add_lit, Nat.zero_add]
  have := World.cell?_alloc_at (w := X) #[a, b, c, d] t X.heap.size j rfl
  rw [this]
  simpa using hu

set_option maxRecDepth 100000 in
set_option maxHeartbeats 8000000 in
theorem rnew_ok (b off n cap po pof pc : Nat) (T : TD) (Z : Nat → Int) (w : World) (hc : chkR T n = (0, 0)) (hb : b < w.heap.size) (hpo : po < w.heap.size) (hT : TasksAt w b off n T) (hZ : IntsAt w po pof n Z) (hp : PrioB Z n) :
    Calls Tryz.prog 19 #[.slice (some ⟨b, off, none⟩) n cap, .slice (some ⟨po, pof, none⟩) n pc] w fun e w' => ∃ yb, e = .returned (.tuple #[.pointer (some ⟨yb, 0, none⟩), .int .i64 0, .int .i64 0]) ∧ RG (fun q => w.heap.size ≤ q ∧ q < w'.heap.size) w' yb (sysOf T Z n) Cad.start ∧ Below w.heap.size w w' := by
  obtain ⟨i3, hi3, hz30, hz31, hz32⟩ := info_parts Tryz.info3
  obtain ⟨i7, hi7, hz70, hz71, hz72⟩ := info_parts Tryz.info77
  obtain ⟨i5, hi5, hz50, hz51, hz52⟩ := info_parts Tryz.info86
  have hG := (good_of_chk hc).1
  have h1 := hG.one
  have h8 := hG.eight
  have HT : Hid (TasksAt w b off n T) := hT
  have HZ : Hid (IntsAt w po pof n Z) := hZ
  have HC : Hid (chkR T n = (0, 0)) := hc
  have HP : Hid (PrioB Z n) := hp
  have HG : Hid (Good T n) := hG
  clear hT hZ hc hp hG
  go_enter Tryz.func19, Tryz.ntmps19
  go_wp2_with fail
  refine (refana_ok b off n cap po pof pc T Z _ HC.out hb hpo HT.out HZ.out ((order_iff Z n).2 HP.out)).mono ?_
  rintro e w1 ⟨v, R, rfl, hov, _, hb1⟩
  obtain ⟨vo, vcap, hvs⟩ := own_shapeK hov
  subst hvs
  have HB1 : Hid (Below w.heap.size w w1) := hb1
  have hs1 := hb1.size
  clear hov hb1
  obtain ⟨W1, hW1⟩ : ∃ W1, W1 = (w1.alloc (.cells #[.slice none 0 0, .slice none 0 0, .slice none 0 0, .int .i64 0, .int .i64 0, .int .i64 0] 116)) := ⟨_, rfl⟩
  have hbx := row6 w1 (.slice none 0 0) (.slice none 0 0) (.slice none 0 0) (.int .i64 0) (.int .i64 0) (.int .i64 0) 116
  rw [← hW1] at hbx
  have hbw : Below w1.heap.size w1 W1 := by rw [hW1]; exact below_alloc1 _ _
  have HBW : Hid (Below w.heap.size w W1) := HB1.out.trans (hbw.mono hs1)
  have hsW := HBW.out.size
  have HROW : Hid (W1.rowIs w1.heap.size 116 6 (rkcell (.slice none 0 0) (.slice none 0 0) (.slice none 0 0) rstart)) := hbx.congr (fun p hp => by
    match p, hp with
    | 0, _ => rfl
    | 1, _ => rfl
    | 2, _ => rfl
    | 3, _ => rfl
    | 4, _ => rfl
    | 5, _ => rfl)
  have HW1 : Hid (W1 = (w1.alloc (.cells #[.slice none 0 0, .slice none 0 0, .slice none 0 0, .int .i64 0, .int .i64 0, .int .i64 0] 116))) := hW1
  have hkl : w1.heap.size < W1.heap.size := hbx.lt
  have k1 : W1.cell? ⟨w1.heap.size, 1, none⟩ = some (.slice none 0 0) := hbx.cell (by omega)
  have kz : ∀ q, W1.frozen? ⟨w1.heap.size, q, none⟩ = false := fun q => hbx.frozen q
  have HNP : Hid (∀ j u, (priC Z n)[j]? = some u → W1.cell? ((⟨po, pof, none⟩ : Addr).add j) = some u) := by
    intro j u hu
    have hj := (List.getElem?_eq_some_iff.1 hu).1
    unfold priC at hu hj
    rw [List.length_map, List.length_range] at hj
    rw [List.getElem?_map, List.getElem?_range hj] at hu
    cases hu
    rw [Addr.add_lit]
    exact (HBW.out.cell (p := ⟨po, pof + j, none⟩) hpo).trans (HZ.out j hj)
  clear hW1 hbx hbw k1 kz
  go_wp2_with (at_builtin; refine wpList_append_own3 _ rfl _ _ 23 rfl w.heap.size 3 i3 (.int .i64 0) 1 8 Tryz.underlying23 hi3 hz30 hz31 hz32 rfl (by decide) (.slice none 0 0) 0 [] rfl (World.ownsRow_nil _ _ _ _) ⟨po, pof, none⟩ n pc (priC Z n) rfl ?_ (by rw [← HW1.out]; exact HNP.out) ?_ ?_ ?_ ?_ ?_)
  any_goals (first | (unfold priC; rw [List.length_map, List.length_range]; omega) | (intro u hu; unfold priC at hu; obtain ⟨x, _, rfl⟩ := List.mem_map.1 hu; rfl) | (unfold maxLen; omega) | omega | (rw [← HW1.out]; omega))
  intro vP wP hownP hgP
  rw [← HW1.out] at hgP
  obtain ⟨pb, pcap, hvP, p1, p2⟩ := own_some hownP h1
  subst hvP
  have hrowP := HROW.out.of_block (hgP.by'.block _ hkl (by simp [Value.ownBlock]))
  have k1 : wP.cell? ⟨w1.heap.size, 1, none⟩ = some (.slice none 0 0) := hrowP.cell (by omega)
  have kz : ∀ q, wP.frozen? ⟨w1.heap.size, q, none⟩ = false := fun q => hrowP.frozen q
  have hklP := hrowP.lt
  have HN0 : Hid (NInv w (wP.setCell ⟨w1.heap.size, 1, none⟩ (.slice (some ⟨pb, 0, none⟩) n pcap)) w1.heap.size n 0 T Z (.slice none 0 0) (.slice (some ⟨pb, 0, none⟩) n pcap) (fun _ => (0, 0))) := by
    refine ⟨(HBW.out.grown hgP.by' hsW (fun q hq => by simp [Value.ownBlock] at hq)).setCell hs1 _, (hrowP.set 1 _).congr (fun p hp => ?_), hs1, World.ownsRow_nil _ _ _ _, own_setOther hownP hrowP (by decide) _, fun j hj => by omega⟩
    match p, hp with
    | 0, _ => rfl
    | 1, _ => rfl
    | 2, _ => rfl
    | 3, _ => rfl
    | 4, _ => rfl
    | 5, _ => rfl
  clear hownP hgP hrowP HROW HW1 HNP
  generalize w1.heap.size = kb at *
  go_wp2_with fail
  clear k1 kz
  go_loopw [11] (fun iv wr => ∃ (i : Nat) (tv : Value) (A : Nat → Nat × Nat), i ≤ n ∧ iv = .int .i64 i ∧ NInv w wr kb n i T Z tv (.slice (some ⟨pb, 0, none⟩) n pcap) A) (fun iv _ => n - (intOf iv).toNat)
  case atStart => exact ⟨0, _, _, Nat.zero_le _, rfl, HN0.out⟩
  case round =>
    obtain ⟨i, tv, A, hi, rfl, hN⟩ := hrel
    by_cases hlt : i < n
    · obtain ⟨t0, t1, t2, t3, t4⟩ := HT.out i hlt
      obtain ⟨hL1, hL16, _, _⟩ := progB_inv (HG.out.prog i hlt)
      obtain ⟨sb, so, hsa, hscs⟩ := prog_cells t4 hL1
      obtain ⟨sb', so', hsa', hsl, _⟩ := t4.2 hL1
      rw [hsa] at hsa'
      cases hsa'
      have hbel := hN.below
      have d0 : wr.cell? ⟨b, off + i * 4, none⟩ = some (.int .i64 (T.P i)) := (hbel.cell (p := ⟨b, off + i * 4, none⟩) hb).trans t0
      have d1 : wr.cell? ⟨b, off + i * 4 + 1, none⟩ = some (.int .i64 (T.D i)) := (hbel.cell (p := ⟨b, off + i * 4 + 1, none⟩) hb).trans t1
      have d2 : wr.cell? ⟨b, off + i * 4 + 2, none⟩ = some (.int .i64 (T.J i)) := (hbel.cell (p := ⟨b, off + i * 4 + 2, none⟩) hb).trans t2
      have d3 : wr.cell? ⟨b, off + i * 4 + 3, none⟩ = some (.slice (some ⟨sb, so, none⟩) (T.L i) (T.C i)) := (hbel.cell (p := ⟨b, off + i * 4 + 3, none⟩) hb).trans (by rw [t3, hsa])
      have hbr : b < wr.heap.size := Nat.lt_of_lt_of_le hb hbel.size
      have HNR : Hid (NInv w wr kb n i T Z tv (.slice (some ⟨pb, 0, none⟩) n pcap) A) := hN
      have hwz := hbel.size
      have HNS : Hid (∀ j u, (steC (T.K i) (T.N i) (T.L i))[j]? = some u → (wr.alloc (.cells #[.int .i64 (T.P i), .int .i64 (T.D i), .int .i64 (T.J i), .slice (some ⟨sb, so, none⟩) (T.L i) (T.C i)] 77)).cell? ((⟨sb, so, none⟩ : Addr).add j) = some u) := by
        intro j u hu
        have hj := (List.getElem?_eq_some_iff.1 hu).1
        unfold steC at hu hj
        rw [List.length_map, List.length_range] at hj
        rw [List.getElem?_map, List.getElem?_range hj] at hu
        cases hu
        rw [Addr.add_lit]
        exact (((below_alloc1 wr _).cell (p := ⟨sb, so + j, none⟩) (by show sb < wr.heap.size; omega)).trans (hbel.cell (p := ⟨sb, so + j, none⟩) hsl)).trans (hscs j hj)
      clear hN t0 t1 t2 t3 t4 hscs hbel
      go_wp2_with (at_builtin; refine wpList_append_own3 _ rfl _ _ 75 rfl w.heap.size 86 i5 _ 2 16 Tryz.underlying75 hi5 hz50 hz51 hz52 rfl (by decide) (.slice none 0 0) 0 [] rfl (World.ownsRow_nil _ _ _ _) ⟨sb, so, none⟩ (T.L i) (T.C i) (steC (T.K i) (T.N i) (T.L i)) rfl ?_ HNS.out ?_ ?_ ?_ ?_ ?_)
      any_goals (first | (unfold steC; rw [List.length_map, List.length_range]) | (intro u hu; unfold steC at hu; obtain ⟨x, _, rfl⟩ := List.mem_map.1 hu; exact pf_one _) | (unfold maxLen; omega) | omega | (rw [Deep.nblk_alloc]; omega))
      intro vS wS hownS hgS
      obtain ⟨g, cs, hvS, g1, g2⟩ := own_some hownS hL1
      subst hvS
      have hbox0 := box4 wr (.int .i64 (T.P i)) (.int .i64 (T.D i)) (.int .i64 (T.J i)) (.slice (some ⟨sb, so, none⟩) (T.L i) (T.C i)) 77
      have hboxS := World.rowIs.of_block hbox0 (hgS.by'.block _ hbox0.lt (by simp [Value.ownBlock]))
      have x3 : wS.cell? ⟨wr.heap.size, 3, none⟩ = some (.slice (some ⟨sb, so, none⟩) (T.L i) (T.C i)) := hboxS.cell (by omega)
      have xz : ∀ q, wS.frozen? ⟨wr.heap.size, q, none⟩ = false := fun q => hboxS.frozen q
      have hbxl := hboxS.lt
      obtain ⟨X, hX⟩ : ∃ X, X = wS.setCell ⟨wr.heap.size, 3, none⟩ (.slice (some ⟨g, 0, none⟩) (T.L i) cs) := ⟨_, rfl⟩
      have hboxX := hboxS.set 3 (.slice (some ⟨g, 0, none⟩) (T.L i) cs)
      rw [← hX] at hboxX
      have hbX : Below wr.heap.size wr X := by
        rw [hX]
        exact ((below_alloc1 wr _).grown hgS.by' (by rw [Deep.nblk_alloc]; omega) (fun q hq => by simp [Value.ownBlock] at hq)).setCell (Nat.le_refl _) _
      obtain ⟨tvo, tvc, htv⟩ := own_shapeK HNR.out.town
      subst htv
      have HTO : Hid (X.ownsRow w.heap.size 77 4 (.slice tvo i tvc) i (tkCs T A i)) := own_same HNR.out.town (fun q hq => hbX.block q (HNR.out.town.lt q hq).2)
      have hrowX := HNR.out.row.of_block (hbX.block kb HNR.out.row.lt)
      have v0 : X.cell? ⟨wr.heap.size, 0, none⟩ = some (.int .i64 (T.P i)) := hboxX.cell (by omega)
      have v1 : X.cell? ⟨wr.heap.size, 1, none⟩ = some (.int .i64 (T.D i)) := hboxX.cell (by omega)
      have v2 : X.cell? ⟨wr.heap.size, 2, none⟩ = some (.int .i64 (T.J i)) := hboxX.cell (by omega)
      have v3 : X.cell? ⟨wr.heap.size, 3, none⟩ = some (.slice (some ⟨g, 0, none⟩) (T.L i) cs) := hboxX.cell (by omega)
      have vk : X.cell? ⟨kb, 0, none⟩ = some (.slice tvo i tvc) := hrowX.cell (by omega)
      have vf : X.frozen? ⟨kb, 0, none⟩ = false := hrowX.frozen 0
      have hkXl := hrowX.lt
      have hbxX := hboxX.lt
      have hkr := HNR.out.row.lt
      have htl : ∀ q, (Value.slice tvo i tvc).ownBlock = some q → q < wr.heap.size ∧ q ≠ kb := fun q hq => ⟨(HNR.out.town.lt q hq).2, fun e => by
        obtain ⟨_, _, hr⟩ := own_rowE HNR.out.town hq
        exact row_ne hr HNR.out.row (by decide) e⟩
      have HWX : Hid (w.heap.size ≤ X.heap.size) := Nat.le_trans hwz hbX.size
      have HAPP : Hid (∀ wx v9 w9, Grew wx w9 (.slice tvo i tvc) v9 → Below X.heap.size X wx → w9.frozen? ⟨kb, 0, none⟩ = false ∧ w9.cell? ⟨kb, 0, none⟩ = some (.slice tvo i tvc)) := by
        intro wx v9 w9 hg9 hbx'
        have b1 : w9.heap[kb]? = X.heap[kb]? := (hg9.by'.block kb (Nat.lt_of_lt_of_le hkXl hbx'.size) (fun e => (htl kb e.symm).2 rfl)).trans (hbx'.block _ hkXl)
        exact ⟨(World.frozen?_of_block (a := ⟨kb, 0, none⟩) b1).trans vf, (cell_same b1).trans vk⟩
      have HOS : Hid _ := hownS
      have HGS : Hid _ := hgS
      have HX : Hid (X = wS.setCell ⟨wr.heap.size, 3, none⟩ (.slice (some ⟨g, 0, none⟩) (T.L i) cs)) := hX
      clear hownS hgS hbox0 hboxS hboxX hrowX hbX hX HNS
      have HEND : Hid (∀ wx v9 w9, Grew wx w9 (.slice tvo i tvc) v9 → Below X.heap.size X wx → w9.ownsRow w.heap.size 77 4 v9 (i + 1) (tkCs T A i ++ [.int .i64 (T.P i), .int .i64 (T.D i), .int .i64 (T.J i), .slice (some ⟨g, 0, none⟩) (T.L i) cs]) → NInv w (w9.setCell ⟨kb, 0, none⟩ v9) kb n (i + 1) T Z v9 (.slice (some ⟨pb, 0, none⟩) n pcap) (upd A i (g, cs))) := by
        intro wx v9 w9 hg9 hbx' hs9
        have e : tkc T (upd A i (g, cs)) i = [.int .i64 (T.P i), .int .i64 (T.D i), .int .i64 (T.J i), .slice (some ⟨g, 0, none⟩) (T.L i) cs] := by
          unfold tkc
          rw [upd_same]
        rw [← e] at hs9
        rw [HX.out] at hbx'
        exact NInv.step HNR.out rfl HOS.out HGS.out hs9 hg9 hbx'
      go_wp2_with fail
      rw [← HX.out]
      clear HX x3 xz hbxl HGS HOS
      go_region_law (refine step_append_own3R rfl (.tmp 56) (.tmp 58) 22 rfl w.heap.size 77 i7 _ 4 48 Tryz.underlying22 hi7 hz70 hz71 hz72 rfl (by decide) (.slice tvo i tvc) i (tkCs T A i) (by simp [Act.eval]) (HTO.out.alloc _) ⟨X.heap.size, 0, none⟩ 1 1 _ (by simp [Act.eval]) rfl (cells4_at X _ rfl _ _ _ _ _) (by intro u hu; simp at hu; rcases hu with rfl | rfl | rfl | rfl <;> rfl) (by unfold maxLen; omega) (by omega) (by simp; have := HWX.out; omega) ?_; intro v9 w9 hs9 hg9; have ⟨hfz9, hk9⟩ := HAPP.out _ v9 w9 hg9 ⟨rfl, rfl, rfl, (below_alloc1 X _).size, (below_alloc1 X _).block⟩; have hRA := HEND.out _ v9 w9 hg9 ⟨rfl, rfl, rfl, (below_alloc1 X _).size, (below_alloc1 X _).block⟩ hs9; have HRA : Hid _ := hRA; obtain ⟨g9, c9, rfl⟩ := own_slice hs9; clear hs9 hg9 hRA)
      all_goals
        go_wp2
        go_roundw
        case rel => exact ⟨i + 1, _, _, by omega, by go_num, HRA.out⟩
        case measure => simp [intOf]; omega
    · have hin : i = n := by omega
      subst hin
      have HRG : Hid (RG (fun q => w.heap.size ≤ q ∧ q < wr.heap.size) wr kb (sysOf T Z i) Cad.start) := hN.done HG.out HP.out (fun t ht => ((HT.out t ht).2.2.2.2).1)
      have HBL : Hid (Below w.heap.size w wr) := hN.below
      clear hN
      go_wp2
      go_ret3
      exact ⟨kb, rfl, HRG.out, HBL.out⟩

end Go.Proofs.YtdabcflpcklfiaaGreat

/- The law: what New is asked with comes back. -/
namespace Go.Proofs.YtdabcflpcklfiaaGreat
open Go.RowKit Cad

/-- What 'returned' leaves. -/
structure RetE (w w' : World) (Wb n Lb : Nat) (Sx : Nat → Nat) (M E M' E' : Nat → Prop) (V V' : Nat → Value) (C C' : Nat → List Value) (last : Int) : Prop where
  lm : LM M' w' Wb V' C' last
  le : LE E' w' C'
  mf : ∀ q, M' q → M q ∨ (w.heap.size ≤ q ∧ q < w'.heap.size)
  ef : ∀ q, E' q → E q ∨ q = Lb ∨ ∃ j, j < n ∧ q = Sx j
  fr : Fr (fun q => M q ∨ q = Lb ∨ ∃ j, j < n ∧ q = Sx j) w w'
  cs : ∀ i, i < 8 → i ≠ 6 → i ≠ 7 → C' i = C i ∧ V' i = V i
  cl : (C' 6).length ≤ (C 6).length + n ∧ (C' 7).length ≤ (C 7).length + 1

def nilV (_ : Nat) : Value := .slice none 0 0
def nilC (_ : Nat) : List Value := []

theorem own_base {w : World} {base e size : Nat} {v : Value} {n : Nat} {xs : List Value} (h : w.ownsRow base e size v n xs) : w.ownsRow 0 e size v n xs := by
  refine ⟨h.1, ?_⟩
  rcases h.2 with g | ⟨g, cap, cur, h1, _, h3⟩
  · exact .inl g
  · exact .inr ⟨g, cap, cur, h1, Nat.zero_le _, h3⟩

/-- The tasks that the law is asked with. -/
structure TArg (w : World) (B0 b n : Nat) (tO : Option Addr) (off : Nat) (T : TD) : Prop where
  some' : 1 ≤ n → tO = some ⟨b, off, none⟩ ∧ b < B0
  tasks : TasksAt w b off n T
  progs : ∀ i, i < n → 1 ≤ T.L i → ∀ a, T.A i = some a → a.block < B0
  n8 : n * 48 ≤ 140737488351232
  l8 : ∀ i, i < n → T.L i * 16 ≤ 140737488351232

set_option maxRecDepth 100000 in
set_option maxHeartbeats 1000000 in
theorem refana_none2 (ao : Option Addr) (cap : Nat) (pv : Value) (w : World) :
    Calls Tryz.prog 36 #[.slice ao 0 cap, pv] w fun e w' => e = .returned (.tuple #[.slice none 0 0, .int .i64 1, .int .i64 0]) ∧ Below w.heap.size w w' := by
  go_enter Tryz.func36, Tryz.ntmps36
  go_wp2_with fail
  refine (ref_many _ 0 _ _ (by omega) (by omega)).mono ?_
  rintro e w1 ⟨rfl, hw1⟩
  obtain rfl := hw1.symm
  clear hw1
  go_wp2
  go_ret3
  exact ⟨rfl, Below.refl _ _⟩

set_option maxRecDepth 100000 in
set_option maxHeartbeats 1000000 in
theorem rnew_bad {tv pv : Value} {E A : Int} {w : World} (h : Calls Tryz.prog 36 #[tv, pv] w fun e w' => e = .returned (.tuple #[.slice none 0 0, .int .i64 E, .int .i64 A]) ∧ Below w.heap.size w w') (hE : E ≠ 0) :
    Calls Tryz.prog 19 #[tv, pv] w fun e w' => e = .returned (.tuple #[.pointer none, .int .i64 E, .int .i64 A]) ∧ Below w.heap.size w w' := by
  have HC : Hid _ := h
  have hd : (E != 0) = true := by simpa using hE
  clear h hE
  go_enter Tryz.func19, Tryz.ntmps19
  go_wp2_with fail
  refine Calls.mono HC.out ?_
  rintro e w1 ⟨rfl, hb1⟩
  have HB : Hid (Below w.heap.size w w1) := hb1
  clear hb1
  go_wp2
  go_ret3
  exact ⟨rfl, HB.out⟩

end Go.Proofs.YtdabcflpcklfiaaGreat
