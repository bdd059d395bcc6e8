import Derived.Test.YtdabcflpcklfiaaGreatA50
import Derived.Test.YtdabcflpcklfiaaGreatRows
import Derived.Test.YtdabcflpcklfiaaGreatA28
import Derived.Test.YtdabcflpcklfiaaGreatA49
/- The law Runs, walked. -/
namespace Go.Proofs.YtdabcflpcklfiaaGreat
open Go.RowKit Cad

theorem fresh_lm {w : World} {Wb : Nat} (hW : w.rowIs Wb 32 9 (wf9 (.slice none 0 0) (.slice none 0 0) fnil)) : LM (fun q => q = Wb) w Wb nilV nilC 0 := by
  refine ⟨hW.congr (fun q hq => ?_), fun i hi => World.ownsRow_nil _ _ _ _, rfl, fun i hi b hb => ?_, fun i j hi hj hij => .inl rfl⟩
  · unfold lrow
    match q, hq with
    | 0, _ => rfl
    | 1, _ => rfl
    | 2, _ => rfl
    | 3, _ => rfl
    | 4, _ => rfl
    | 5, _ => rfl
    | 6, _ => rfl
    | 7, _ => rfl
    | 8, _ => rfl
  · have hb' : (Value.slice none 0 0).ownBlock = some b := hb
    simp [Value.ownBlock] at hb'

theorem fresh_le (w : World) : LE (fun _ => False) w nilC :=
  ⟨rfl, fun i v h => by simp [nilC] at h, rfl, fun i v h => by simp [nilC] at h, fun v h => by simp [nilC] at h, fun v h => by simp [nilC] at h, fun v h => by simp [nilC] at h⟩

end Go.Proofs.YtdabcflpcklfiaaGreat

/- What came in, opened: tasks, numbers, a script; and how much of it there can be. -/
namespace Go.Proofs.YtdabcflpcklfiaaGreat
open Go.RowKit Go.Deep Go.ChangeShapes Go.WideShapes

theorem bulk_one {H : Type} (d : DataW H) : 1 ≤ Rows.uptoBulk d := by
  cases d with
  | lit l => cases l <;> simp [Rows.uptoBulk]
  | nil => simp [Rows.uptoBulk]
  | ptr d => simp [Rows.uptoBulk]
  | slice elems spare => simp [Rows.uptoBulk]
  | agg parts => simp [Rows.uptoBulk]
  | iface t d => simp [Rows.uptoBulk]
  | map entries => simp [Rows.uptoBulk]
  | held h => simp [Rows.uptoBulk]

theorem bulk_length {H : Type} (l : List (DataW H)) : l.length ≤ Rows.uptoBulkAll l := by
  induction l with
  | nil => simp [Rows.uptoBulkAll]
  | cons x r ih => have := bulk_one x; simp only [Rows.uptoBulkAll, List.length_cons]; omega

theorem bulk_slice {H : Type} (elems spare : List (DataW H)) : elems.length + 1 ≤ Rows.uptoBulk (.slice elems spare) := by
  have h1 := bulk_length elems
  simp only [Rows.uptoBulk]
  omega

/-- A slice is no longer than its bulk. -/
theorem open_len {H : Type} {enc : TypeId × Value → H} {W : World} {fuel : Nat} {v : Value} {t e : TypeId} {x : DataW H × List MemPlace} (ht : Tryz.prog.underlying t = some (.slice e)) (h : DataW.trod enc Tryz.prog W 0 (fun _ => true) true fuel t [v] = some x) {A : Option Addr} {n cap : Nat} (hv' : v = .slice A n cap) : n ≤ Rows.uptoBulk x.1 := by
  rcases open_slice ht h with ⟨hv, _⟩ | ⟨a, l, c, m, k, D, Pl, hv, _, hlc, _, hm, rfl, hx⟩
  · rw [hv'] at hv
    cases hv
    exact Nat.zero_le _
  · simp only [if_true] at hm
    have hm2 := hm.symm
    subst hm2
    rw [hv'] at hv
    have hn : n = l := by
      simp at hv
      exact hv.2.1
    subst hn
    refine Nat.le_trans ?_ (Nat.le_of_succ_le (bulk_slice _ _))
    simp

theorem Tryz.cells64 : Tryz.prog.cellsOf 64 = 5 := by kernel_rfl
theorem Tryz.cells4 : Tryz.prog.cellsOf 4 = 1 := by kernel_rfl

/-- One step of a script. -/
structure OpIn (W : World) (a : Addr) (t j u : Int) (A : Option Addr) (l c : Nat) (R : Nat → Int) (wh : Bool) : Prop where
  c0 : W.cell? a = some (.int .i64 t)
  c1 : W.cell? (a.add 1) = some (.int .i64 j)
  c2 : W.cell? (a.add 2) = some (.int .i64 u)
  c3 : W.cell? (a.add 3) = some (.slice A l c)
  c4 : W.cell? (a.add 4) = some (.bool wh)
  l8 : l * 8 ≤ 140737488351232
  raw : 1 ≤ l → ∃ rb rf, A = some ⟨rb, rf, none⟩ ∧ rb < W.heap.size ∧ IntsAt W rb rf l R

set_option maxRecDepth 100000 in
theorem open_ops {H : Type} {enc : TypeId × Value → H} {W : World} {fuel : Nat} {v : Value} {x : DataW H × List MemPlace} (h : DataW.trod enc Tryz.prog W 0 (fun _ => true) true fuel 24 [v] = some x) (hr : ∀ n ∈ x.1.weights Tryz.prog 24, n ≤ reachBytes) :
    ∃ (A : Option Addr) (n cap : Nat) (X : OD) (b off : Nat), v = .slice A n cap ∧ n ≤ Rows.uptoBulk x.1 ∧ (1 ≤ n → A = some ⟨b, off, none⟩ ∧ b < W.heap.size) ∧ OpsAt W W.heap.size b off n X := by
  have hlen := fun (A : Option Addr) (n cap : Nat) (hv : v = .slice A n cap) => open_len Tryz.underlying24 h hv
  rcases open_slice Tryz.underlying24 h with ⟨hv, _⟩ | ⟨a, l, c, m, n, D, Pl, hv, _, hlc, _, hm, rfl, hx⟩
  · cases hv
    exact ⟨none, 0, 0, ⟨fun _ => 0, fun _ => 0, fun _ => 0, fun _ => none, fun _ => 0, fun _ => 0, fun _ => false, fun _ _ => 0⟩, 0, 0, rfl, Nat.zero_le _, fun h => by omega, fun i hi => by omega⟩
  · simp only [if_true] at hm
    have hm2 := hm.symm
    subst hm2
    rw [Tryz.cells64] at hx
    have each : ∀ i, i < l → ∃ z : Int × Int × Int × Option Addr × Nat × Nat × (Nat → Int) × Bool, OpIn W (a.add (i * 5)) z.1 z.2.1 z.2.2.1 z.2.2.2.1 z.2.2.2.2.1 z.2.2.2.2.2.1 z.2.2.2.2.2.2.1 z.2.2.2.2.2.2.2 := by
      intro i hi
      obtain ⟨cs', h1, h2⟩ := hx i (by omega)
      obtain ⟨_, hlen', hcell⟩ := World.cells?_some h1
      obtain ⟨xs, k, hk, hxy, _, hxl, hf⟩ := DataW.trod_struct Tryz.underlying64 h2
      match xs, hxl, cs', hlen' with
      | [y0, y1, y2, y3, y4], _, [v0, v1, v2, v3, v4], _ =>
        have g0 := hf 0 _ rfl
        have g1 := hf 1 _ rfl
        have g2 := hf 2 _ rfl
        have g3 := hf 3 _ rfl
        have g4 := hf 4 _ rfl
        simp [Tryz.cells3, Tryz.cells23, Tryz.cells4] at g0 g1 g2 g3 g4
        have q0 := hcell 0 (by omega)
        have q1 := hcell 1 (by omega)
        have q2 := hcell 2 (by omega)
        have q3 := hcell 3 (by omega)
        have q4 := hcell 4 (by omega)
        obtain ⟨n0, e0, _, w0⟩ := DataW.trod_int Tryz.underlying3 g0
        obtain ⟨n1, e1, _, w1⟩ := DataW.trod_int Tryz.underlying3 g1
        obtain ⟨n2, e2, _, w2⟩ := DataW.trod_int Tryz.underlying3 g2
        obtain ⟨b4, e4, _⟩ := DataW.trod_bool Tryz.underlying4 g4
        simp at e0 e1 e2 e4
        subst e0 e1 e2 e4
        have hD : D i = .agg [y0.1, y1.1, y2.1, y3.1, y4.1] := by simpa using (Prod.mk.injEq _ _ _ _ ▸ hxy).1
        obtain ⟨A, pl, pc, R, rfl, hl8, hraw⟩ := open_nums g3 (fun n hn => hr n (by
          simp only [DataW.weights, Tryz.underlying24, List.mem_cons, List.mem_append]
          refine .inr (.inl (weightsAll_mem (d := D i) (List.mem_map.2 ⟨i, List.mem_range.2 hi, rfl⟩) ?_))
          rw [hD]
          simp only [DataW.weights, Tryz.underlying64]
          exact DataW.weights_mem_each (j := 3) (t := 23) rfl rfl n hn))
        rw [reach_eqN] at hl8
        exact ⟨(n0, n1, n2, A, pl, pc, R, b4), by simpa [Addr.add] using q0, by simpa using q1, by simpa using q2, by simpa using q3, by simpa using q4, hl8, hraw⟩
    obtain ⟨z, hz⟩ := choose_lt each
    obtain ⟨b, off, spot⟩ := a
    have hv2 : v = .slice (some ⟨b, off, spot⟩) l c := by simpa using hv
    refine ⟨some ⟨b, off, spot⟩, l, c, ⟨fun i => (z i).1, fun i => (z i).2.1, fun i => (z i).2.2.1, fun i => (z i).2.2.2.1, fun i => (z i).2.2.2.2.1, fun i => (z i).2.2.2.2.2.1, fun i => (z i).2.2.2.2.2.2.2, fun i => (z i).2.2.2.2.2.2.1⟩, b, off, hv2, hlen _ _ _ hv2, fun h1 => ?_, fun i hi => ?_⟩
    · have hspot : spot = none := by
        have := World.cell?_spot (hz 0 (by omega)).c0
        simpa [Addr.add] using this
      subst hspot
      have := (hz 0 (by omega)).c0
      rw [Addr.add_lit] at this
      exact ⟨rfl, World.block_lt_of_cell? W _ this⟩
    · have hspot : spot = none := by
        have := World.cell?_spot (hz 0 (by omega)).c0
        simpa [Addr.add] using this
      subst hspot
      have hh := hz i hi
      rw [Addr.add_lit] at hh
      have c1 := hh.c1
      have c2 := hh.c2
      have c3 := hh.c3
      have c4 := hh.c4
      rw [Addr.add_lit] at c1 c2 c3 c4
      exact ⟨hh.c0, c1, c2, c3, c4, hh.l8, hh.raw⟩

/-- Tasks that came in, as the law takes them. -/
theorem open_targ {H : Type} {enc : TypeId × Value → H} {W : World} {fuel : Nat} {v : Value} {x : DataW H × List MemPlace} (h : DataW.trod enc Tryz.prog W 0 (fun _ => true) true fuel 22 [v] = some x) (hr : ∀ n ∈ x.1.weights Tryz.prog 22, n ≤ reachBytes) :
    ∃ (A : Option Addr) (n cap : Nat) (T : TD) (b off : Nat), v = .slice A n cap ∧ n ≤ Rows.uptoBulk x.1 ∧ TArg W W.heap.size b n A off T := by
  have hlen := fun (A : Option Addr) (n cap : Nat) (hv : v = .slice A n cap) => open_len Tryz.underlying22 h hv
  obtain ⟨A, n, cap, T, rfl, hn, hst⟩ := open_tasks h hr
  rw [reach_eqN] at hn
  by_cases h1 : 1 ≤ n
  · obtain ⟨b, off, rfl, ht⟩ := hst h1
    have hL : ∀ i, i < n → T.L i * 16 ≤ 140737488351232 := fun i hi => by have := (ht i hi).len; rw [reach_eqN] at this; exact this
    refine ⟨_, n, cap, T, b, off, rfl, hlen _ _ _ rfl, ⟨fun _ => ⟨rfl, World.block_lt_of_cell? W _ (ht 0 (by omega)).c0⟩, fun i hi => ?_, fun i hi h1 a ha => ?_, hn, hL⟩⟩
    · have t := ht i hi
      have c1 := t.c1
      have c2 := t.c2
      have c3 := t.c3
      rw [Addr.add_lit] at c1 c2 c3
      refine ⟨t.c0, c1, c2, c3, by have := hL i hi; omega, fun h1 => ?_⟩
      obtain ⟨pb, po, e, hs⟩ := t.steps h1
      exact ⟨pb, po, e, World.block_lt_of_cell? W _ (hs 0 (by omega)).1, hs⟩
    · obtain ⟨pb, po, e, hs⟩ := (ht i hi).steps h1
      rw [e] at ha
      cases ha
      exact World.block_lt_of_cell? W _ (hs 0 (by omega)).1
  · obtain rfl : n = 0 := by omega
    exact ⟨A, 0, cap, T, 0, 0, rfl, Nat.zero_le _, ⟨fun h => by omega, fun i hi => by omega, fun i hi => by omega, by omega, fun i hi => by omega⟩⟩

theorem open_parg {H : Type} {enc : TypeId × Value → H} {W : World} {fuel : Nat} {v : Value} {x : DataW H × List MemPlace} (h : DataW.trod enc Tryz.prog W 0 (fun _ => true) true fuel 23 [v] = some x) (hr : ∀ n ∈ x.1.weights Tryz.prog 23, n ≤ reachBytes) :
    ∃ (A : Option Addr) (n cap : Nat) (Z : Nat → Int), v = .slice A n cap ∧ PArg W W.heap.size n A Z := by
  obtain ⟨A, n, cap, Z, rfl, hn, hz⟩ := open_nums h hr
  rw [reach_eqN] at hn
  exact ⟨A, n, cap, Z, rfl, hn, hz⟩

end Go.Proofs.YtdabcflpcklfiaaGreat

/- The law: a list of numbers is marked and kept. -/
namespace Go.Proofs.YtdabcflpcklfiaaGreat
open Go.RowKit Cad

theorem own_of_rowI {w : World} {g n : Nat} {f : Nat → Value} {u : Value} (hn : n ≤ maxLen) (h : w.rowIs g 3 n f) (hf : ∀ q, q < n → f q = u) : w.ownsRow 0 3 1 (.slice (some ⟨g, 0, none⟩) n n) n (List.replicate n u) := by
  obtain ⟨c, hc, hcs, hcf⟩ := h
  refine ⟨by rw [List.length_replicate]; omega, .inr ⟨g, n, c, rfl, Nat.zero_le _, hc, Nat.le_refl _, hn, by omega, ?_⟩⟩
  apply List.ext_getElem?
  intro q
  rw [List.getElem?_take]
  by_cases c2 : q < n
  · rw [if_pos (by omega), List.getElem?_replicate, if_pos c2, Array.getElem?_toList, hcf q c2, hf q c2]
  · rw [if_neg (by omega), List.getElem?_replicate, if_neg c2]

theorem own_elI {w : World} {E : Nat → Prop} {l : Value} {n : Nat} {u : Value} (hn : n ≤ 100000000000000) (h : w.ownsRow 0 3 1 l n (List.replicate n u)) (hE : ∀ b, l.ownBlock = some b → E b) : ElAt w E 3 1 (fun _ => u) l := by
  rcases h.2 with ⟨hv, h0⟩ | ⟨g, cap, cur, hv, _, hg, _⟩
  · exact ⟨none, 0, 0, hv, by omega, fun h1 => by omega⟩
  · refine ⟨_, n, cap, hv, hn, fun _ => ⟨g, rfl, hE g (by rw [hv]; rfl), own_rowE h (by rw [hv]; rfl), fun q hq => ?_⟩⟩
    have := h.cells (g := g) (by rw [hv]; rfl) q u (by rw [List.getElem?_replicate, if_pos (by omega)])
    rw [Addr.add_lit, Nat.zero_add] at this
    exact this

theorem ElAt.grewI {w w' : World} {E : Nat → Prop} {n m : Nat} {f : Nat → Value} {v l l' : Value} {xs ys : List Value} (h : ElAt w E 3 1 f v) (hg : Grew w w' l l') (ho : w.ownsRow 0 3 1 l n xs) (ho' : w'.ownsRow 0 3 1 l' (n + m) (xs ++ ys))
    (hv : ∀ ao len cap, v = .slice ao len cap → v.ownBlock = l.ownBlock → l.ownBlock ≠ none → len ≤ n) : ElAt w' E 3 1 f v := by
  obtain ⟨ao, len, cap, e, hl, hc⟩ := h
  refine ⟨ao, len, cap, e, hl, fun h1 => ?_⟩
  obtain ⟨g, e1, e2, ⟨sz, F, hr⟩, hq⟩ := hc h1
  have hvb : v.ownBlock = some g := by rw [e, e1]; rfl
  refine ⟨g, e1, e2, ?_, fun q hq' => hg.cell ho ho' (hq q hq') (fun hlb => ?_)⟩
  · by_cases c : l.ownBlock = some g
    · rcases hg.at' with g1 | ⟨_, g1⟩
      · exact own_rowE ho' (g1.trans c)
      · exact ⟨sz, F, hr.of_block (g1.block g hr.lt (by simp))⟩
    · exact ⟨sz, F, hr.of_block (hg.by'.block g hr.lt (fun e => c e.symm))⟩
  · have := hv ao len cap e (hvb.trans hlb.symm) (by rw [hlb]; simp)
    omega

/-- The lists when ns have been kept with the mark mk. -/
def iC (C : Nat → List Value) (ns : List Value) (mk : Int) : Nat → List Value := upd (upd C 3 (C 3 ++ ns)) 4 (C 4 ++ List.replicate ns.length (.int .i64 mk))
theorem iC_3 (C : Nat → List Value) (ns : List Value) (mk : Int) : iC C ns mk 3 = C 3 ++ ns := by unfold iC; rw [upd_other _ _ (by decide), upd_same]
theorem iC_4 (C : Nat → List Value) (ns : List Value) (mk : Int) : iC C ns mk 4 = C 4 ++ List.replicate ns.length (.int .i64 mk) := by unfold iC; rw [upd_same]
theorem iC_o (C : Nat → List Value) (ns : List Value) (mk : Int) {i : Nat} (h3 : i ≠ 3) (h4 : i ≠ 4) : iC C ns mk i = C i := by unfold iC; rw [upd_other _ _ h4, upd_other _ _ h3]

theorem iC_push (C : Nat → List Value) (ns : List Value) (mk : Int) (v : Value) : upd (upd (iC C ns mk) 3 (iC C ns mk 3 ++ [v])) 4 (iC C ns mk 4 ++ [.int .i64 mk]) = iC C (ns ++ [v]) mk := by
  funext i
  by_cases h4 : i = 4
  · subst h4
    rw [upd_same, iC_4, iC_4, List.append_assoc]
    congr 1
    rw [List.length_append, List.length_singleton, List.replicate_succ']
  · rw [upd_other _ _ h4]
    by_cases h3 : i = 3
    · subst h3
      rw [upd_same, iC_3, iC_3, List.append_assoc]
    · rw [upd_other _ _ h3, iC_o _ _ _ h3 h4, iC_o _ _ _ h3 h4]

theorem iC_nil (C : Nat → List Value) (mk : Int) : iC C [] mk = C := by
  funext i
  by_cases h4 : i = 4
  · subst h4
    rw [iC_4]
    exact List.append_nil _
  · by_cases h3 : i = 3
    · subst h3
      rw [iC_3, List.append_nil]
    · exact iC_o _ _ _ h3 h4

theorem LE.addI {E : Nat → Prop} {w : World} {C : Nat → List Value} (h : LE E w C) {ns : List Value} {mk : Int} (hv : ∀ v ∈ ns, ElAt w E 3 1 (fun _ => .int .i64 mk) v) : LE E w (iC C ns mk) where
  jlen := by rw [iC_o _ _ _ (by decide) (by decide), iC_o _ _ _ (by decide) (by decide)]; exact h.jlen
  je i u hu := by
    rw [iC_o _ _ _ (by decide) (by decide)] at hu ⊢
    exact h.je i u hu
  ilen := by rw [iC_3, iC_4, List.length_append, List.length_append, List.length_replicate, h.ilen]
  ie i u hu := by
    rw [iC_3] at hu
    rw [iC_4]
    by_cases c : i < (C 3).length
    · rw [List.getElem?_append_left c] at hu
      obtain ⟨mk', e1, e2⟩ := h.ie i u hu
      exact ⟨mk', by rw [List.getElem?_append_left (by rw [← h.ilen]; exact c)]; exact e1, e2⟩
    · rw [List.getElem?_append_right (by omega)] at hu
      refine ⟨mk, ?_, hv u (List.mem_of_getElem? hu)⟩
      have hlt := (List.getElem?_eq_some_iff.1 hu).1
      rw [List.getElem?_append_right (by rw [← h.ilen]; omega), List.getElem?_replicate, if_pos (by rw [← h.ilen]; exact hlt)]
  te u hu := by
    rw [iC_o _ _ _ (by decide) (by decide)] at hu
    exact h.te u hu
  pe u hu := by
    rw [iC_o _ _ _ (by decide) (by decide)] at hu
    exact h.pe u hu
  ke u hu := by
    rw [iC_o _ _ _ (by decide) (by decide)] at hu
    exact h.ke u hu

/-- While the marked list is kept: everything. -/
structure KN (w wr : World) (Wb n j : Nat) (l0 l : Value) (M E M' Q : Nat → Prop) (V V' : Nat → Value) (C : Nat → List Value) (ns : List Value) (last mk : Int) : Prop where
  lm : LM M' wr Wb V' (iC C ns mk) last
  le : LE E wr C
  nl : ns.length = j
  el : ∀ v ∈ ns, ElAt wr Q 3 1 (fun _ => .int .i64 mk) v
  own : wr.ownsRow 0 3 1 l (n + j) (List.replicate (n + j) (.int .i64 mk))
  lq : ∀ b, l.ownBlock = some b → Q b
  qf : ∀ q, Q q → (l0.ownBlock = some q ∨ w.heap.size ≤ q) ∧ q < wr.heap.size ∧ ¬ M' q
  les : ∀ v ∈ ns, ∀ ao len cap, v = .slice ao len cap → v.ownBlock = l.ownBlock → l.ownBlock ≠ none → len ≤ n + j
  fr : Fr (fun q => M q ∨ l0.ownBlock = some q) w wr
  mf : ∀ q, M' q → M q ∨ (w.heap.size ≤ q ∧ q < wr.heap.size)
  v0 : V' 0 = V 0

/-- What stands. -/
structure KNF (w : World) (l0 : Value) (M E : Nat → Prop) : Prop where
  loM : Lo M w.heap.size
  loE : Lo E w.heap.size
  dis : Dis M E
  l0 : ∀ b, l0.ownBlock = some b → b < w.heap.size ∧ ¬ M b ∧ ¬ E b

theorem KN.step {w wr wA wB wC : World} {Wb n j : Nat} {l0 l vA vB l' : Value} {M E M' Q : Nat → Prop} {V V' : Nat → Value} {C : Nat → List Value} {ns : List Value} {last mk : Int} {oA oB oC : Obj} (hf : KNF w l0 M E) (h : KN w wr Wb n j l0 l M E M' Q V V' C ns last mk) (hn : n + j ≤ 100000000000)
    (hownA : wA.ownsRow 0 23 1 vA ((iC C ns mk 3).length + 1) (iC C ns mk 3 ++ [l])) (hgA : Grew (wr.alloc oA) wA (V' 3) vA)
    (hownB : wB.ownsRow 0 3 1 vB ((iC C ns mk 4).length + 1) (iC C ns mk 4 ++ [.int .i64 mk])) (hgB : Grew ((wA.setCell ⟨Wb, 3, none⟩ vA).alloc oB) wB (V' 4) vB)
    (hownC : wC.ownsRow 0 3 1 l' (n + j + 1) (List.replicate (n + j) (.int .i64 mk) ++ [.int .i64 mk])) (hgC : Grew ((wB.setCell ⟨Wb, 4, none⟩ vB).alloc oC) wC l l') :
    ∃ M2 Q2, KN w wC Wb n (j + 1) l0 l' M E M2 Q2 V (upd (upd V' 3 vA) 4 vB) C (ns ++ [l]) last mk := by
  have hlm0 := h.lm.below (below_alloc1 wr oA)
  obtain ⟨pA1, pA2⟩ := hlm0.push (i := 3) (by omega) (us := [l]) hownA hgA
  have hlm1 := pA1.below (below_alloc1 (wA.setCell ⟨Wb, 3, none⟩ vA) oB)
  have e2 : upd (iC C ns mk) 3 (iC C ns mk 3 ++ [l]) 4 = iC C ns mk 4 := upd_other _ _ (by decide)
  have e3 : upd V' 3 vA 4 = V' 4 := upd_other _ _ (by decide)
  have hpB := hlm1.push (i := 4) (by omega) (us := [.int .i64 mk]) (v5 := vB) (w5 := wB) (by rw [e2]; exact hownB) (by rw [e3]; exact hgB)
  rw [e2, iC_push] at hpB
  obtain ⟨pB1, pB2⟩ := hpB
  have s0 : (wr.alloc oA).heap.size = wr.heap.size + 1 := Deep.nblk_alloc _ _
  have s1 : (wA.setCell ⟨Wb, 3, none⟩ vA).heap.size = wA.heap.size := Deep.nblk_setCell _ _ _
  have s2 : ((wA.setCell ⟨Wb, 3, none⟩ vA).alloc oB).heap.size = wA.heap.size + 1 := by rw [Deep.nblk_alloc, s1]
  have s3 : (wB.setCell ⟨Wb, 4, none⟩ vB).heap.size = wB.heap.size := Deep.nblk_setCell _ _ _
  have s4 : ((wB.setCell ⟨Wb, 4, none⟩ vB).alloc oC).heap.size = wB.heap.size + 1 := by rw [Deep.nblk_alloc, s3]
  have z1 := hgA.by'.size
  have z2 := hgB.by'.size
  have z3 := hgC.by'.size
  rw [s0] at z1
  rw [s2] at z2
  rw [s4] at z3
  have zw := h.fr.size
  have hf1 : Fr M' wr (wB.setCell ⟨Wb, 4, none⟩ vB) := by
    have a1 : Fr M' wr ((wA.setCell ⟨Wb, 3, none⟩ vA).alloc oB) := ((((Fr.refl M' wr).alloc oA).then pA2)).alloc oB
    refine a1.trans pB2 (fun q hq => ?_)
    rcases hq with hq | hq
    · exact .inl hq
    · rw [s0] at hq; exact .inr (by omega)
  have hf2 : Fr M' wr ((wB.setCell ⟨Wb, 4, none⟩ vB).alloc oC) := hf1.alloc oC
  have hlb : ∀ b, l.ownBlock = some b → b < wr.heap.size := fun b hb => (h.own.lt b hb).2
  have hownl : ((wB.setCell ⟨Wb, 4, none⟩ vB).alloc oC).ownsRow 0 3 1 l (n + j) (List.replicate (n + j) (.int .i64 mk)) := own_same h.own (fun b hb => hf2.block b (hlb b hb) (h.qf b (h.lq b hb)).2.2)
  have hEM : Dis E M' := fun q h1 h2 => by
    rcases h.mf q h2 with e | e
    · exact hf.dis q e h1
    · have := hf.loE q h1; omega
  have hEl : ∀ q, E q → l.ownBlock ≠ some q := fun q h1 h2 => by
    rcases (h.qf q (h.lq q h2)).1 with e | e
    · exact (hf.l0 q e).2.2 h1
    · have := hf.loE q h1; omega
  have hle2 := (h.le.other hf2 hEM).other (Fr.of_grown hgC.by') (fun q h1 h2 => hEl q h1 h2)
  obtain ⟨ll, cl', hlsh⟩ := own_shapeK h.own
  have hles1 : ∀ v ∈ ns ++ [l], ∀ ao len cap, v = .slice ao len cap → v.ownBlock = l.ownBlock → l.ownBlock ≠ none → len ≤ n + j := by
    intro v hv ao len cap e1 e2 e3
    rcases List.mem_append.1 hv with hv | hv
    · exact h.les v hv ao len cap e1 e2 e3
    · rw [List.mem_singleton.1 hv, hlsh] at e1
      cases e1
      exact Nat.le_refl _
  have hMB : ∀ q, Nx (Nx M' (wr.alloc oA).heap.size wA.heap.size) ((wA.setCell ⟨Wb, 3, none⟩ vA).alloc oB).heap.size wB.heap.size q → M' q ∨ (wr.heap.size < q ∧ q < wB.heap.size) := by
    intro q hq
    rcases hq with (hq | hq) | hq
    · exact .inl hq
    · rw [s0] at hq; exact .inr (by omega)
    · rw [s2] at hq; exact .inr (by omega)
  have hlm2 := (pB1.below (below_alloc1 (wB.setCell ⟨Wb, 4, none⟩ vB) oC)).other (Fr.of_grown hgC.by') (fun q hq hb => by
    rcases hMB q hq with g1 | g1
    · exact (h.qf q (h.lq q hb)).2.2 g1
    · have := hlb q hb; omega)
  have hQM : Dis Q M' := fun q h1 h2 => (h.qf q h1).2.2 h2
  have hel1 : ∀ v ∈ ns ++ [l], ElAt ((wB.setCell ⟨Wb, 4, none⟩ vB).alloc oC) Q 3 1 (fun _ => .int .i64 mk) v := fun v hv => by
    rcases List.mem_append.1 hv with hv | hv
    · exact (h.el v hv).other hf2 hQM
    · rw [List.mem_singleton.1 hv]
      exact own_elI (by omega) hownl h.lq
  have hel2 : ∀ v ∈ ns ++ [l], ElAt wC (fun q => Q q ∨ l'.ownBlock = some q) 3 1 (fun _ => .int .i64 mk) v := fun v hv => ((hel1 v hv).grewI hgC hownl hownC (hles1 v hv)).mono (fun q hq => .inl hq)
  have hvlt : ∀ v ∈ ns ++ [l], ∀ ao len cap, v = .slice ao len cap → 1 ≤ len → ∀ b, v.ownBlock = some b → b < wr.heap.size := by
    intro v hv ao len cap e1 c b hb
    rcases List.mem_append.1 hv with hv | hv
    · obtain ⟨ao', len', cap', ee, _, hc⟩ := h.el v hv
      rw [e1] at ee
      cases ee
      obtain ⟨g', ea, _, ⟨_, _, hr⟩, _⟩ := hc c
      rw [e1, ea] at hb
      cases hb
      exact hr.lt
    · rw [List.mem_singleton.1 hv] at hb
      exact hlb b hb
  refine ⟨_, fun q => Q q ∨ l'.ownBlock = some q, hlm2, hle2, by rw [List.length_append, h.nl]; rfl, hel2, ?_, fun b hb => .inr hb, fun q hq => ?_, fun v hv ao len cap e1 e2 e3 => ?_, ?_, fun q hq => ?_, ?_⟩
  · rw [← List.replicate_succ'] at hownC
    exact hownC
  · have hnew : Q q ∨ q = wB.heap.size + 1 := by
      rcases hq with hq | hq
      · exact .inl hq
      · rcases hgC.at' with g1 | ⟨g1, _⟩
        · exact .inl (h.lq q (g1 ▸ hq))
        · rw [g1, s4] at hq
          cases hq
          exact .inr rfl
    rcases hnew with g | g
    · obtain ⟨a1, a2, a3⟩ := h.qf q g
      refine ⟨a1, by omega, fun hm => ?_⟩
      rcases hMB q hm with g1 | g1
      · exact a3 g1
      · omega
    · refine ⟨.inr (by omega), ?_, fun hm => ?_⟩
      · rcases hq with hq | hq
        · have := (h.qf q hq).2.1; omega
        · exact (hownC.lt q hq).2
      · rcases hMB q hm with g1 | g1
        · rcases h.mf q g1 with e | e
          · have := hf.loM q e; omega
          · omega
        · omega
  · rcases hgC.at' with g1 | ⟨g1, _⟩
    · rw [g1] at e2 e3
      have := hles1 v hv ao len cap e1 e2 e3
      omega
    · by_cases c : 1 ≤ len
      · rw [g1] at e2
        have := hvlt v hv ao len cap e1 c _ e2
        rw [s4] at this
        omega
      · omega
  · have f1 : Fr (fun q => M q ∨ l0.ownBlock = some q) w ((wB.setCell ⟨Wb, 4, none⟩ vB).alloc oC) := h.fr.trans hf2 (fun q hq => by
      rcases h.mf q hq with g2 | g2
      · exact .inl (.inl g2)
      · exact .inr g2.1)
    exact f1.trans (Fr.of_grown hgC.by') (fun q hq => by
      rcases (h.qf q (h.lq q hq)).1 with g2 | g2
      · exact .inl (.inr g2)
      · exact .inr g2)
  · rcases hMB q hq with g1 | g1
    · rcases h.mf q g1 with g2 | g2
      · exact .inl g2
      · exact .inr (by omega)
    · exact .inr (by omega)
  · rw [upd_other _ _ (by decide), upd_other _ _ (by decide)]
    exact h.v0

end Go.Proofs.YtdabcflpcklfiaaGreat

/- The law: a list of numbers is marked and kept, walked. -/
namespace Go.Proofs.YtdabcflpcklfiaaGreat
open Go.RowKit Cad

/-- A list that came out: nil, or a row of its own. -/
def LstN (w : World) (n : Nat) (l : Value) : Prop := (l = .slice none 0 0 ∧ n = 0) ∨ ∃ g f, l = .slice (some ⟨g, 0, none⟩) n n ∧ w.rowIs g 3 n f

/-- What keepInts leaves. -/
structure KIEnd (w w' : World) (Wb : Nat) (l0 : Value) (M E M' E' : Nat → Prop) (V V' : Nat → Value) (C C' : Nat → List Value) (last : Int) : Prop where
  lm : LM M' w' Wb V' C' (last - 1)
  le : LE E' w' C'
  dis : Dis M' E'
  mf : ∀ q, M' q → M q ∨ (w.heap.size ≤ q ∧ q < w'.heap.size)
  ef : ∀ q, E' q → E q ∨ l0.ownBlock = some q ∨ (w.heap.size ≤ q ∧ q < w'.heap.size)
  fr : Fr (fun q => M q ∨ l0.ownBlock = some q) w w'
  c0 : C' 0 = C 0 ∧ V' 0 = V 0
  cl : ∀ i, i < 8 → (C' i).length ≤ (C i).length + 4

theorem KN.done {w wr : World} {Wb n : Nat} {l0 l : Value} {M E M' Q : Nat → Prop} {V V' : Nat → Value} {C : Nat → List Value} {ns : List Value} {last mk : Int} (hf : KNF w l0 M E) (h : KN w wr Wb n 4 l0 l M E M' Q V V' C ns (last - 1) mk) : ∃ M' E' V' C', KIEnd w wr Wb l0 M E M' E' V V' C C' last := by
  refine ⟨M', fun q => E q ∨ Q q, V', iC C ns mk, h.lm, (h.le.mono (fun q g => .inl g)).addI (fun v hv => (h.el v hv).mono (fun q g => .inr g)), fun q h1 h2 => ?_, h.mf, fun q g => ?_, h.fr, ⟨iC_o _ _ _ (by decide) (by decide), h.v0⟩, fun i hi => ?_⟩
  · rcases h2 with g | g
    · rcases h.mf q h1 with e | e
      · exact hf.dis q e g
      · have := hf.loE q g; omega
    · exact (h.qf q g).2.2 h1
  · rcases g with g | g
    · exact .inl g
    · obtain ⟨a1, a2, _⟩ := h.qf q g
      rcases a1 with e | e
      · exact .inr (.inl e)
      · exact .inr (.inr ⟨e, a2⟩)
  · by_cases e3 : i = 3
    · subst e3
      rw [iC_3, List.length_append, h.nl]
      omega
    · by_cases e4 : i = 4
      · subst e4
        rw [iC_4, List.length_append, List.length_replicate, h.nl]
        omega
      · rw [iC_o _ _ _ e3 e4]
        omega

set_option maxRecDepth 100000 in
set_option maxHeartbeats 16000000 in
theorem keepInts_any {w : World} {Wb n : Nat} {l0 : Value} {V : Nat → Value} {C : Nat → List Value} {last : Int} {M E : Nat → Prop} (hm : LM M w Wb V C last) (he : LE E w C) (hf : KNF w l0 M E) (hl : LstN w n l0) (hn : n ≤ 1000)
    (h0 : -1000000000000 ≤ last) (h1 : last ≤ 0) (hC : ∀ i, i < 8 → (C i).length ≤ 1000000000000) :
    Calls Tryz.prog 38 #[.pointer (some ⟨Wb, 0, none⟩), l0] w fun e w' => e = .returned (.tuple #[]) ∧ ∃ M' E' V' C', KIEnd w w' Wb l0 M E M' E' V V' C C' last := by
  obtain ⟨i3, hi3, hz30, hz31, hz32⟩ := info_parts Tryz.info3
  obtain ⟨i0, hi0, hz00, hz01, hz02⟩ := info_parts Tryz.info23
  obtain ⟨ao, lc, hlv⟩ : ∃ ao lc, l0 = .slice ao n lc := by
    rcases hl with ⟨rfl, rfl⟩ | ⟨g, f, rfl, _⟩
    · exact ⟨none, 0, rfl⟩
    · exact ⟨_, _, rfl⟩
  subst hlv
  have HM : Hid (LM M w Wb V C last) := hm
  have HE : Hid (LE E w C) := he
  have HF : Hid (KNF w (.slice ao n lc) M E) := hf
  have HL : Hid (LstN w n (.slice ao n lc)) := hl
  have HC : Hid (∀ i, i < 8 → (C i).length ≤ 1000000000000) := hC
  clear hm he hf hl hC
  go_enter Tryz.func38, Tryz.ntmps38
  go_wp2_with fail
  refine Calls.mono (mark2_any HM.out h0 (by omega)) ?_
  rintro e w1 ⟨rfl, hw1⟩
  obtain ⟨hl1, hl2⟩ := HM.out.setLast (last' := last - 1)
  rw [← hw1] at hl1 hl2
  have HM1 : Hid (LM M w1 Wb V C (last - 1)) := hl1
  have HF1 : Hid (Fr M w w1) := hl2
  have HL1 : Hid (LstN w1 n (.slice ao n lc)) := by
    rcases HL.out with g | ⟨g, f, e1, e2⟩
    · exact .inl g
    · exact .inr ⟨g, f, e1, e2.of_block (hl2.block g e2.lt (HF.out.l0 g (by rw [e1]; rfl)).2.1)⟩
  clear hw1 hl1 hl2
  obtain ⟨mk, hmk⟩ : ∃ mk, mk = last - 1 - 100 := ⟨_, rfl⟩
  rw [← hmk]
  clear hmk
  go_wp2_with fail
  go_loopw [5] (fun iv wr => ∃ i : Nat, i ≤ n ∧ iv = .int .i64 i ∧ ((Value.slice ao n lc = .slice none 0 0 ∧ n = 0) ∨ ∃ g f, Value.slice ao n lc = .slice (some ⟨g, 0, none⟩) n n ∧ wr.rowIs g 3 n f ∧ ∀ q, q < i → f q = .int .i64 mk) ∧ Fr (fun q => (Value.slice ao n lc).ownBlock = some q) w1 wr) (fun iv _ => n - (intOf iv).toNat)
  case atStart =>
    refine ⟨0, Nat.zero_le _, rfl, ?_, Fr.refl _ _⟩
    rcases HL1.out with g | ⟨g, f, e1, e2⟩
    · exact .inl g
    · exact .inr ⟨g, f, e1, e2, fun q hq => by omega⟩
  case round =>
    obtain ⟨i, hi, rfl, hrow, hfr⟩ := hrel
    by_cases hlt : i < n
    · obtain ⟨g, f', e1, hr, hf'⟩ : ∃ g f, Value.slice ao n lc = .slice (some ⟨g, 0, none⟩) n n ∧ wr.rowIs g 3 n f ∧ ∀ q, q < i → f q = .int .i64 mk := by
        rcases hrow with ⟨_, h0⟩ | h
        · omega
        · exact h
      cases e1
      have y0 : wr.cell? ⟨g, i, none⟩ = some (f' i) := hr.cell hlt
      have z : ∀ q, wr.frozen? ⟨g, q, none⟩ = false := fun q => hr.frozen q
      have hgl := hr.lt
      have FIN : Hid (((Value.slice (some ⟨g, 0, none⟩) n n = .slice none 0 0 ∧ n = 0) ∨ ∃ g' f, Value.slice (some ⟨g, 0, none⟩) n n = .slice (some ⟨g', 0, none⟩) n n ∧ (wr.setCell ⟨g, i, none⟩ (.int .i64 mk)).rowIs g' 3 n f ∧ ∀ q, q < i + 1 → f q = .int .i64 mk) ∧ Fr (fun q => (Value.slice (some ⟨g, 0, none⟩) n n).ownBlock = some q) w1 (wr.setCell ⟨g, i, none⟩ (.int .i64 mk))) := by
        refine ⟨.inr ⟨g, _, rfl, hr.set i _, fun q hq => ?_⟩, hfr.setCell (a := ⟨g, i, none⟩) (.inl rfl) _⟩
        by_cases e : q = i
        · rw [if_pos e]
        · rw [if_neg e]
          exact hf' q (by omega)
      clear hrow hfr hr hf'
      go_wp2
      go_roundw
      case rel => exact ⟨i + 1, by omega, by go_num, FIN.out.1, FIN.out.2⟩
      case measure => simp [intOf]; omega
    · obtain rfl : n = i := by omega
      have HKN : Hid (KN w wr Wb n 0 (.slice ao n lc) (.slice ao n lc) M E M (fun q => (Value.slice ao n lc).ownBlock = some q) V V C [] (last - 1) mk) := by
        have hdM : Dis M (fun q => (Value.slice ao n lc).ownBlock = some q) := fun q h1 h2 => (HF.out.l0 q h2).2.1 h1
        have hdE : Dis E (fun q => (Value.slice ao n lc).ownBlock = some q) := fun q h1 h2 => (HF.out.l0 q h2).2.2 h1
        have hz := Nat.le_trans HF1.out.size hfr.size
        refine ⟨by rw [iC_nil]; exact HM1.out.other hfr hdM, (HE.out.other HF1.out HF.out.dis.symm).other hfr hdE, rfl, (fun v hv => by cases hv), ?_, fun b hb => hb, fun q hq => ⟨.inl hq, by have := (HF.out.l0 q hq).1; omega, (HF.out.l0 q hq).2.1⟩, (fun v hv => by cases hv), (HF1.out.mono (fun q g => .inl g)).then (hfr.mono (fun q g => .inr g)), fun q g => .inl g, rfl⟩
        rcases hrow with ⟨e1, e2⟩ | ⟨g, f, e1, e2, e3⟩
        · rw [e1, e2]
          exact World.ownsRow_nil _ _ _ _
        · rw [e1]
          exact own_of_rowI (by unfold maxLen; omega) e2 e3
      clear hrow hfr
      go_wp2_with fail
      go_loopw [1, 6] (fun lv jv wr => ∃ (j : Nat) (M' Q : Nat → Prop) (V' : Nat → Value) (ns : List Value), j ≤ 4 ∧ jv = .int .i64 j ∧ KN w wr Wb n j (.slice ao n lc) lv M E M' Q V V' C ns (last - 1) mk) (fun _ jv _ => 4 - (intOf jv).toNat)
      case atStart => exact ⟨0, M, _, V, [], by omega, rfl, HKN.out⟩
      case round =>
        obtain ⟨j, M', Q, V', ns, hj, rfl, hk⟩ := hrel
        by_cases hj4 : j < 4
        · obtain ⟨lo, lcap, hlsh⟩ := own_shapeK hk.own
          subst hlsh
          have HK : Hid (KN w wr Wb n j (.slice ao n lc) (.slice lo (n + j) lcap) M E M' Q V V' C ns (last - 1) mk) := hk
          obtain ⟨va, hva⟩ : ∃ va, va = V' 3 := ⟨_, rfl⟩
          have a1 : wr.cell? ⟨Wb, 3, none⟩ = some va := by rw [hva]; exact hk.lm.cellW (by omega)
          have hxA : wr.ownsRow 0 23 1 va (iC C ns mk 3).length (iC C ns mk 3) := by rw [hva]; exact hk.lm.own 3 (by omega)
          have hc1 : (iC C ns mk 3).length ≤ 1000000000004 := by rw [iC_3, List.length_append, hk.nl]; have := HC.out 3 (by omega); omega
          have hc2 : (iC C ns mk 4).length ≤ 1000000000004 := by rw [iC_4, List.length_append, List.length_replicate, hk.nl]; have := HC.out 4 (by omega); omega
          have hwl := hk.lm.row.lt
          have HVA : Hid (va = V' 3) := hva
          clear hk hva
          go_wp2_with (at_builtin; refine wpList_append_own3 _ rfl _ _ 28 rfl 0 23 i0 (.slice none 0 0) 1 24 Tryz.underlying28 hi0 hz00 hz01 hz02 rfl (by decide) _ _ _ rfl (hxA.alloc _) ⟨wr.heap.size, 0, none⟩ 1 1 [.slice lo (n + j) lcap] rfl rfl ?_ ?_ ?_ ?_ ?_ ?_)
          any_goals (first | exact rfl | exact cell_one_at _ _ rfl _ _ | exact cell_one_at _ _ (by rw [Deep.nblk_setCell]) _ _ | exact one_oneCell rfl | (unfold maxLen; omega) | omega)
          intro vA wA hownA hgA
          rw [HVA.out] at hgA
          have hlmA := HK.out.lm.below (below_alloc1 wr (.cells #[.slice lo (n + j) lcap] 23))
          have hpA := (hlmA.push (i := 3) (by omega) (us := [.slice lo (n + j) lcap]) hownA hgA).1
          have hrowA := hlmA.row' (i := 3) (by omega) hgA
          obtain ⟨gA, capA, hvA⟩ := own_slice hownA
          have HOA : Hid _ := hownA
          have HGA : Hid _ := hgA
          obtain ⟨vb, hvb⟩ : ∃ vb, vb = V' 4 := ⟨_, rfl⟩
          have b1 : wA.cell? ⟨Wb, 3, none⟩ = some va := by rw [hrowA.cell (by omega), HVA.out]; rfl
          have b2 : wA.cell? ⟨Wb, 4, none⟩ = some vb := by rw [hrowA.cell (by omega), hvb]; rfl
          have bz : ∀ q, wA.frozen? ⟨Wb, q, none⟩ = false := fun q => hrowA.frozen q
          have hwlA := hrowA.lt
          have hxB : (wA.setCell ⟨Wb, 3, none⟩ vA).ownsRow 0 3 1 vb (iC C ns mk 4).length (iC C ns mk 4) := by
            have := hpA.own 4 (by omega)
            rw [upd_other _ _ (by decide), upd_other _ _ (by decide), ← hvb] at this
            exact this
          have HPA : Hid _ := hpA
          have HVB : Hid (vb = V' 4) := hvb
          clear hlmA hpA hrowA hownA hgA hxA a1 hvb
          subst hvA
          go_wp2_with (at_builtin; refine wpList_append_own3 _ rfl _ _ 23 rfl 0 3 i3 (.int .i64 0) 1 8 Tryz.underlying23 hi3 hz30 hz31 hz32 rfl (by decide) _ _ _ rfl (hxB.alloc _) ⟨wA.heap.size, 0, none⟩ 1 1 [.int .i64 mk] rfl rfl ?_ ?_ ?_ ?_ ?_ ?_)
          any_goals (first | exact rfl | exact cell_one_at _ _ rfl _ _ | exact cell_one_at _ _ (by rw [Deep.nblk_setCell]) _ _ | exact one_oneCell rfl | (unfold maxLen; omega) | omega)
          intro vB wB hownB hgB
          rw [HVB.out] at hgB
          have hlmB := HPA.out.below (below_alloc1 (wA.setCell ⟨Wb, 3, none⟩ (.slice (some ⟨gA, 0, none⟩) ((iC C ns mk 3).length + 1) capA)) (.cells #[.int .i64 mk] 3))
          have e2 : upd V' 3 (Value.slice (some ⟨gA, 0, none⟩) ((iC C ns mk 3).length + 1) capA) 4 = V' 4 := upd_other _ _ (by decide)
          have hrowB := hlmB.row' (i := 4) (by omega) (v5 := vB) (w5 := wB) (by rw [e2]; exact hgB)
          obtain ⟨gB, capB, hvB⟩ := own_slice hownB
          have HOB : Hid _ := hownB
          have HGB : Hid _ := hgB
          have d2' : wB.cell? ⟨Wb, 4, none⟩ = some vb := by
            rw [hrowB.cell (by omega)]
            rw [HVB.out, ← e2]
            rfl
          have dz : ∀ q, wB.frozen? ⟨Wb, q, none⟩ = false := fun q => hrowB.frozen q
          have hwlB := hrowB.lt
          subst hvB
          have hnow : Fr M' wr (wB.setCell ⟨Wb, 4, none⟩ (.slice (some ⟨gB, 0, none⟩) ((iC C ns mk 4).length + 1) capB)) := by
            have p1 := (HK.out.lm.below (below_alloc1 wr (.cells #[.slice lo (n + j) lcap] 23))).push (i := 3) (by omega) (us := [.slice lo (n + j) lcap]) HOA.out HGA.out
            have p2 := hlmB.push (i := 4) (by omega) (us := [.int .i64 mk]) (w5 := wB) (v5 := .slice (some ⟨gB, 0, none⟩) ((iC C ns mk 4).length + 1) capB) (by rw [upd_other _ _ (by decide)]; exact HOB.out) (by rw [e2]; exact HGB.out)
            refine ((((Fr.refl M' wr).alloc _).then p1.2).alloc _).trans p2.2 (fun q hq => ?_)
            rcases hq with hq | hq
            · exact .inl hq
            · rw [Deep.nblk_alloc] at hq; exact .inr (by omega)
          have hxC : (wB.setCell ⟨Wb, 4, none⟩ (.slice (some ⟨gB, 0, none⟩) ((iC C ns mk 4).length + 1) capB)).ownsRow 0 3 1 (.slice lo (n + j) lcap) (n + j) (List.replicate (n + j) (.int .i64 mk)) := own_same HK.out.own (fun b hb => hnow.block b (HK.out.own.lt b hb).2 (HK.out.qf b (HK.out.lq b hb)).2.2)
          clear hlmB hrowB hownB hgB hxB b1 b2 bz e2 hnow
          go_wp2_with (at_builtin; refine wpList_append_own3 _ rfl _ _ 23 rfl 0 3 i3 (.int .i64 0) 1 8 Tryz.underlying23 hi3 hz30 hz31 hz32 rfl (by decide) _ _ _ rfl (hxC.alloc _) ⟨wB.heap.size, 0, none⟩ 1 1 [.int .i64 mk] rfl rfl ?_ ?_ ?_ ?_ ?_ ?_)
          any_goals (first | exact rfl | exact cell_one_at _ _ rfl _ _ | exact cell_one_at _ _ (by rw [Deep.nblk_setCell]) _ _ | exact one_oneCell rfl | (unfold maxLen; omega) | omega)
          intro l' wC hownC hgC
          obtain ⟨M2, Q2, hstep⟩ := HK.out.step HF.out (by omega) HOA.out HGA.out HOB.out HGB.out hownC hgC
          have HST : Hid (∃ M2 Q2, KN w wC Wb n (j + 1) (.slice ao n lc) l' M E M2 Q2 V _ C _ (last - 1) mk) := ⟨M2, Q2, hstep⟩
          clear hownC hgC hxC hstep dz d2'
          go_wp2
          go_roundw
          case rel =>
            obtain ⟨M2, Q2, hs⟩ := HST.out
            exact ⟨j + 1, M2, Q2, _, _, by omega, by go_num, hs⟩
          case measure => simp [intOf]; omega
        · obtain rfl : j = 4 := by omega
          have HEN : Hid (∃ M' E' V' C', KIEnd w wr Wb (.slice ao n lc) M E M' E' V V' C C' last) := hk.done HF.out
          clear hk
          go_wp2
          go_end0
          exact ⟨rfl, HEN.out⟩

end Go.Proofs.YtdabcflpcklfiaaGreat

/- The law: lent tasks come back, whatever lists there are already. -/
namespace Go.Proofs.YtdabcflpcklfiaaGreat
open Go.RowKit Cad

/-- The lists when m programs and the tasks tk have been kept. -/
def rC (C : Nat → List Value) (T : TD) (S : Nat → Nat) (m : Nat) (tk : List Value) : Nat → List Value := upd (upd C 6 (C 6 ++ allOf T S m)) 7 (C 7 ++ tk)

theorem rC_6 (C : Nat → List Value) (T : TD) (S : Nat → Nat) (m : Nat) (tk : List Value) : rC C T S m tk 6 = C 6 ++ allOf T S m := by unfold rC; rw [upd_other _ _ (by decide), upd_same]
theorem rC_7 (C : Nat → List Value) (T : TD) (S : Nat → Nat) (m : Nat) (tk : List Value) : rC C T S m tk 7 = C 7 ++ tk := by unfold rC; rw [upd_same]
theorem rC_o (C : Nat → List Value) (T : TD) (S : Nat → Nat) (m : Nat) (tk : List Value) {i : Nat} (h6 : i ≠ 6) (h7 : i ≠ 7) : rC C T S m tk i = C i := by unfold rC; rw [upd_other _ _ h7, upd_other _ _ h6]

theorem rC_S (C : Nat → List Value) (T : TD) (S : Nat → Nat) (m : Nat) (tk : List Value) : upd (rC C T S m tk) 6 (rC C T S m tk 6 ++ [Value.slice (some ⟨S m, 0, none⟩) (T.L m + 1) (T.L m + 1)]) = rC C T S (m + 1) tk := by
  funext i
  by_cases h6 : i = 6
  · subst h6
    rw [upd_same, rC_6, rC_6, List.append_assoc]
    congr 1
    unfold allOf
    rw [List.range_succ, List.map_append]
    rfl
  · rw [upd_other _ _ h6]
    by_cases h7 : i = 7
    · subst h7
      rw [rC_7, rC_7]
    · rw [rC_o _ _ _ _ _ h6 h7, rC_o _ _ _ _ _ h6 h7]

theorem rC_T (C : Nat → List Value) (T : TD) (S : Nat → Nat) (m : Nat) (u : Value) : upd (rC C T S m []) 7 (rC C T S m [] 7 ++ [u]) = rC C T S m [u] := by
  funext i
  by_cases h7 : i = 7
  · subst h7
    rw [upd_same, rC_7, rC_7, List.append_nil]
  · rw [upd_other _ _ h7]
    by_cases h6 : i = 6
    · subst h6
      rw [rC_6, rC_6]
    · rw [rC_o _ _ _ _ _ h6 h7, rC_o _ _ _ _ _ h6 h7]

theorem rC_0 (C : Nat → List Value) (T : TD) (S : Nat → Nat) : rC C T S 0 [] = C := by
  funext i
  by_cases h7 : i = 7
  · subst h7
    rw [rC_7, List.append_nil]
  · by_cases h6 : i = 6
    · subst h6
      rw [rC_6]
      exact List.append_nil _
    · exact rC_o _ _ _ _ _ h6 h7

structure RQ (n m Lb Wb : Nat) (T : TD) (S : Nat → Nat) (v : Value) (LF : Nat → Value) (G : Nat → Nat → Value) (M M' : Nat → Prop) (V V' : Nat → Value) (C : Nat → List Value) (tk : List Value) (last : Int) (w wr : World) : Prop where
  lm : LM M' wr Wb V' (rC C T S m tk) last
  lrow : wr.rowIs Lb 77 ((n + 1) * 4) LF
  rows : ∀ j, j < n → wr.rowIs (S j) 86 ((T.L j + 1) * 2) (G j)
  own : wr.ownsRow 0 75 1 v n (allOf T S n)
  fr : Fr (fun q => M q ∨ q = Lb ∨ ∃ j, j < n ∧ q = S j) w wr
  mf : ∀ q, M' q → M q ∨ (w.heap.size ≤ q ∧ q < wr.heap.size)
  vo : ∀ i, i ≠ 6 → i ≠ 7 → V' i = V i

/-- What stands through the call. -/
structure RQF (B0 n Lb : Nat) (T : TD) (S : Nat → Nat) (v : Value) (M : Nat → Prop) (C : Nat → List Value) (w : World) : Prop where
  hn : ((C 6).length + n) * 24 ≤ 140737488355328
  ht : ((C 7).length + 1) * 24 ≤ 140737488355328
  hn8 : n * 48 ≤ 140737488351232
  hL : ∀ i, i < n → T.L i * 16 ≤ 140737488351232
  bb : B0 ≤ w.heap.size
  mb : ∀ q, M q → B0 ≤ q
  lb : B0 ≤ Lb ∧ Lb < w.heap.size ∧ ¬ M Lb
  sb : ∀ j, j < n → B0 ≤ S j ∧ S j < w.heap.size ∧ ¬ M (S j)
  sord : ∀ i j, i < j → j < n → S i < S j
  vb : ∀ g, v.ownBlock = some g → g < w.heap.size ∧ ¬ M g

section
variable {B0 n m Lb Wb : Nat} {T : TD} {S : Nat → Nat} {v : Value} {LF : Nat → Value} {G : Nat → Nat → Value} {M M' : Nat → Prop} {V V' : Nat → Value} {C : Nat → List Value} {tk : List Value} {last : Int} {w wr : World}

theorem RQ.below (h : RQ n m Lb Wb T S v LF G M M' V V' C tk last w wr) (hf : RQF B0 n Lb T S v M C w) : Below B0 w wr := h.fr.below hf.bb (fun q g => by
  rcases g with g | g | ⟨j, hj, g⟩
  · exact hf.mb q g
  · rw [g]; exact hf.lb.1
  · rw [g]; exact (hf.sb j hj).1)

theorem RQ.not (h : RQ n m Lb Wb T S v LF G M M' V V' C tk last w wr) {q : Nat} (hq : q < w.heap.size) (hm : ¬ M q) : ¬ M' q := fun g => by
  rcases h.mf q g with e | e
  · exact hm e
  · omega

theorem RQ.alloc (h : RQ n m Lb Wb T S v LF G M M' V V' C tk last w wr) (o : Obj) : RQ n m Lb Wb T S v LF G M M' V V' C tk last w (wr.alloc o) :=
  ⟨h.lm.below (below_alloc1 _ _), h.lrow.alloc o, fun j hj => (h.rows j hj).alloc o, h.own.alloc o, h.fr.alloc o, fun q g => by
    rcases h.mf q g with e | e
    · exact .inl e
    · exact .inr (by rw [Deep.nblk_alloc]; omega), h.vo⟩

theorem RQ.drewN (h : RQ n m Lb Wb T S v LF G M M' V V' C tk last w wr) (k : Nat) : RQ n m Lb Wb T S v LF G M M' V V' C tk last w (wr.drewN k) :=
  ⟨h.lm.below (below_drewM (Below.refl _ _) k), h.lrow, h.rows, h.own, ⟨h.fr.os, h.fr.tape, h.fr.output, h.fr.size, h.fr.block⟩, h.mf, h.vo⟩

theorem RQ.congr {LF' : Nat → Value} {G' : Nat → Nat → Value} (h : RQ n m Lb Wb T S v LF G M M' V V' C tk last w wr) (hl : ∀ q, q < (n + 1) * 4 → LF q = LF' q) (hg : ∀ j, j < n → ∀ q, q < (T.L j + 1) * 2 → G j q = G' j q) : RQ n m Lb Wb T S v LF' G' M M' V V' C tk last w wr :=
  { h with lrow := h.lrow.congr hl, rows := fun j hj => (h.rows j hj).congr (hg j hj) }

theorem RQ.setS (hf : RQF B0 n Lb T S v M C w) (h : RQ n m Lb Wb T S v LF G M M' V V' C tk last w wr) {k : Nat} (hk : k < n) (q : Nat) (u : Value) :
    RQ n m Lb Wb T S v LF (fun j p => if j = k then (if p = q then u else G k p) else G j p) M M' V V' C tk last w (wr.setCell ⟨S k, q, none⟩ u) := by
  have hr := h.rows k hk
  have hfr : Fr (fun x => x = S k) wr (wr.setCell ⟨S k, q, none⟩ u) := (Fr.refl (fun x => x = S k) wr).setCell (a := ⟨S k, q, none⟩) (.inl rfl) _
  have hnm := h.not (hf.sb k hk).2.1 (hf.sb k hk).2.2
  refine ⟨h.lm.other hfr (fun x h1 h2 => hnm (h2 ▸ h1)), h.lrow.setOther (rows_ne h.lrow hr (by decide)) _, fun j hj => ?_, own_setOther h.own hr (by decide) _, h.fr.setCell (a := ⟨S k, q, none⟩) (.inl (.inr (.inr ⟨k, hk, rfl⟩))) _, fun x g => by rw [Deep.nblk_setCell]; exact h.mf x g, h.vo⟩
  by_cases e : j = k
  · subst e
    simp only [if_true]
    exact hr.set q u
  · simp only [e, if_false]
    refine (h.rows j hj).setOther ?_ _
    show S j ≠ S k
    rcases Nat.lt_or_gt_of_ne e with g | g
    · have := hf.sord j k g hk; omega
    · have := hf.sord k j g hj; omega

theorem RQ.setL (hf : RQF B0 n Lb T S v M C w) (h : RQ n m Lb Wb T S v LF G M M' V V' C tk last w wr) (q : Nat) (u : Value) :
    RQ n m Lb Wb T S v (fun p => if p = q then u else LF p) G M M' V V' C tk last w (wr.setCell ⟨Lb, q, none⟩ u) := by
  have hr := h.lrow
  have hfr : Fr (fun x => x = Lb) wr (wr.setCell ⟨Lb, q, none⟩ u) := (Fr.refl (fun x => x = Lb) wr).setCell (a := ⟨Lb, q, none⟩) (.inl rfl) _
  have hnm := h.not hf.lb.2.1 hf.lb.2.2
  exact ⟨h.lm.other hfr (fun x h1 h2 => hnm (h2 ▸ h1)), hr.set q u, fun j hj => (h.rows j hj).setOther (rows_ne (h.rows j hj) hr (by decide)) _, own_setOther h.own hr (by decide) _, h.fr.setCell (a := ⟨Lb, q, none⟩) (.inl (.inr (.inl rfl))) _, fun x g => by rw [Deep.nblk_setCell]; exact h.mf x g, h.vo⟩

theorem RQ.push (hf : RQF B0 n Lb T S v M C w) (h : RQ n m Lb Wb T S v LF G M M' V V' C tk last w wr) {m2 : Nat} {tk2 : List Value} {i : Nat} (hi : i = 6 ∨ i = 7) {w5 : World} {v5 u : Value} (hown5 : w5.ownsRow 0 (ety i) 1 v5 ((rC C T S m tk i).length + 1) (rC C T S m tk i ++ [u])) (hg5 : Grew wr w5 (V' i) v5) (he : upd (rC C T S m tk) i (rC C T S m tk i ++ [u]) = rC C T S m2 tk2) :
    RQ n m2 Lb Wb T S v LF G M (Nx M' wr.heap.size w5.heap.size) V (upd V' i v5) C tk2 last w (w5.setCell ⟨Wb, i, none⟩ v5) := by
  have hi8 : i < 8 := by omega
  obtain ⟨p1, p2⟩ := h.lm.push hi8 (us := [u]) hown5 hg5
  rw [he] at p1
  have hz := h.fr.size
  have z5 := hg5.by'.size
  have keep : ∀ b, b < w.heap.size → ¬ M b → (w5.setCell ⟨Wb, i, none⟩ v5).heap[b]? = wr.heap[b]? := fun b hb hm => p2.block b (by omega) (h.not hb hm)
  refine ⟨p1, h.lrow.of_block (keep _ hf.lb.2.1 hf.lb.2.2), fun j hj => (h.rows j hj).of_block (keep _ (hf.sb j hj).2.1 (hf.sb j hj).2.2), own_same h.own (fun b hb => keep b (hf.vb b hb).1 (hf.vb b hb).2), h.fr.trans p2 (fun q g => ?_), fun q g => ?_, fun a h6 h7 => ?_⟩
  · rcases h.mf q g with e | e
    · exact .inl (.inl e)
    · exact .inr e.1
  · rw [Deep.nblk_setCell]
    rcases g with g | g
    · rcases h.mf q g with e | e
      · exact .inl e
      · exact .inr (by omega)
    · exact .inr (by omega)
  · rw [upd_other _ _ (by omega)]
    exact h.vo a h6 h7
end

theorem RQ_step {B0 n m Lb Wb : Nat} {T : TD} {S : Nat → Nat} {v : Value} {LF : Nat → Value} {M M' : Nat → Prop} {V V' : Nat → Value} {C : Nat → List Value} {tk : List Value} {last : Int} {w wr : World} {k j : Nat} (hf : RQF B0 n Lb T S v M C w) (hk : k < n) (hj : j ≤ T.L k)
    (h : RQ n m Lb Wb T S v LF (Gk T k j) M M' V V' C tk last w wr) (o : Obj) (nq : Nat) :
    RQ n m Lb Wb T S v LF (Gk T k (j + 1)) M M' V V' C tk last w ((((wr.alloc o).setCell ⟨S k, j * 2, none⟩ (.int .i64 (-7))).setCell ⟨S k, j * 2 + 1, none⟩ (.int .i64 (-7))).drewN nq) := by
  refine (((((h.alloc o).setS hf hk (j * 2) _).setS hf hk (j * 2 + 1) _).drewN nq).congr (fun _ _ => rfl) (fun i hi q hq => ?_))
  unfold Gk neg7
  by_cases e : i = k
  · subst e
    simp only [if_true, Nat.lt_irrefl, if_false]
    by_cases q1 : q = j * 2 + 1
    · rw [if_pos q1, if_pos (by omega)]
    · rw [if_neg q1]
      by_cases q0 : q = j * 2
      · rw [if_pos q0, if_pos (by omega)]
      · rw [if_neg q0]
        by_cases hq : q < j * 2
        · rw [if_pos hq, if_pos (by omega)]
        · rw [if_neg hq, if_neg (by omega)]
  · simp only [e, if_false]

theorem RQ_stepL {B0 n m Lb Wb : Nat} {T : TD} {S : Nat → Nat} {v : Value} {G : Nat → Nat → Value} {M M' : Nat → Prop} {V V' : Nat → Value} {C : Nat → List Value} {tk : List Value} {last : Int} {w wr : World} {i : Nat} (hf : RQF B0 n Lb T S v M C w)
    (h : RQ n m Lb Wb T S v (Lk T S n i) G M M' V V' C tk last w wr) :
    RQ n m Lb Wb T S v (Lk T S n (i + 1)) G M M' V V' C tk last w ((((wr.setCell ⟨Lb, i * 4, none⟩ (.int .i64 (-7))).setCell ⟨Lb, i * 4 + 1, none⟩ (.int .i64 0)).setCell ⟨Lb, i * 4 + 2, none⟩ (.int .i64 0)).setCell ⟨Lb, i * 4 + 3, none⟩ (.slice none 0 0)) := by
  refine ((((h.setL hf (i * 4) _).setL hf (i * 4 + 1) _).setL hf (i * 4 + 2) _).setL hf (i * 4 + 3) _).congr (fun q hq => ?_) (fun _ _ _ _ => rfl)
  unfold Lk nz zf
  by_cases q3 : q = i * 4 + 3
  · rw [if_pos q3, if_pos (by omega), if_neg (by omega), if_pos (by omega)]
  · rw [if_neg q3]
    by_cases q2 : q = i * 4 + 2
    · rw [if_pos q2, if_pos (by omega), if_neg (by omega), if_neg (by omega)]
    · rw [if_neg q2]
      by_cases q1 : q = i * 4 + 1
      · rw [if_pos q1, if_pos (by omega), if_neg (by omega), if_neg (by omega)]
      · rw [if_neg q1]
        by_cases q0 : q = i * 4
        · rw [if_pos q0, if_pos (by omega), if_pos (by omega)]
        · rw [if_neg q0]
          by_cases hq : q < i * 4
          · rw [if_pos hq, if_pos (show q < (i + 1) * 4 by omega)]
          · rw [if_neg hq, if_neg (by omega)]

set_option maxRecDepth 100000 in
set_option maxHeartbeats 4000000 in
theorem returned_gen (b off n cap B0 Lb Wb ga acap : Nat) (T : TD) (S : Nat → Nat) (M : Nat → Prop) (V : Nat → Value) (C : Nat → List Value) (last : Int) (w : World) (h1 : 1 ≤ n) (hb : b < B0) (hT : TasksAt w b off n T)
    (hTB : ∀ i, i < n → 1 ≤ T.L i → ∀ a, T.A i = some a → a.block < B0)
    (hf : RQF B0 n Lb T S (.slice (some ⟨ga, 0, none⟩) n acap) M C w) (hi : RQ n 0 Lb Wb T S (.slice (some ⟨ga, 0, none⟩) n acap) (lf T S n) (Gk T 0 0) M M V V C [] last w w) :
    Calls Tryz.prog 20 #[.pointer (some ⟨Wb, 0, none⟩), .slice (some ⟨Lb, 0, none⟩) (n + 1) (n + 1), .slice (some ⟨ga, 0, none⟩) n acap, .slice (some ⟨b, off, none⟩) n cap] w fun e w' => e = .returned (.bool true) ∧
      ∃ M' V', RQ n n Lb Wb T S (.slice (some ⟨ga, 0, none⟩) n acap) nz (fun _ => neg7) M M' V V' C [.slice (some ⟨Lb, 0, none⟩) (n + 1) (n + 1)] last w w' := by
  obtain ⟨i4, hi4, hz40, hz41, hz42⟩ := info_parts Tryz.info75
  obtain ⟨i2, hi2, hz20, hz21, hz22⟩ := info_parts Tryz.info22
  have HT : Hid (TasksAt w b off n T) := hT
  have HI : Hid (RQ n 0 Lb Wb T S (.slice (some ⟨ga, 0, none⟩) n acap) (lf T S n) (Gk T 0 0) M M V V C [] last w w) := hi
  have hB0 := hf.bb
  have HF : Hid (RQF B0 n Lb T S (.slice (some ⟨ga, 0, none⟩) n acap) M C w) := hf
  have hn8 := hf.hn8
  have l0 : w.cell? ⟨Lb, n * 4, none⟩ = some (.int .i64 0) := (hi.lrow.cell (by omega)).trans (by rw [show n * 4 = n * 4 + 0 by rfl, zf_last]; rfl)
  have l3 : w.cell? ⟨Lb, n * 4 + 3, none⟩ = some (.slice none 0 0) := (hi.lrow.cell (by omega)).trans (by rw [zf_last]; rfl)
  have HTB : Hid (∀ i, i < n → 1 ≤ T.L i → ∀ a, T.A i = some a → a.block < B0) := hTB
  clear hT hi hf hTB
  go_enter Tryz.func20, Tryz.ntmps20
  go_wp2_with fail
  clear l0 l3
  go_loopw [10] (fun i wr => ∃ (k : Nat) (M1 : Nat → Prop) (V1 : Nat → Value), k ≤ n ∧ i = .int .i64 k ∧ RQ n k Lb Wb T S (.slice (some ⟨ga, 0, none⟩) n acap) (lf T S n) (Gk T k 0) M M1 V V1 C [] last w wr)
    (fun i _ => n - (intOf i).toNat)
  case atStart => exact ⟨0, M, V, Nat.zero_le _, rfl, HI.out⟩
  case round =>
    obtain ⟨wo, hwo⟩ : ∃ x, x = wr := ⟨_, rfl⟩
    subst hwo
    obtain ⟨k, M1, V1, hk, rfl, hri⟩ := hrel
    have hbel := hri.below HF.out
    have hsz : B0 ≤ wo.heap.size := Nat.le_trans hB0 hbel.size
    have hbwo : b < wo.heap.size := by omega
    by_cases hlt : k < n
    · obtain ⟨c0, c1, c2, c3, hp⟩ := HT.out k hlt
      have d0 : wo.cell? ⟨b, off + k * 4, none⟩ = some (.int .i64 (T.P k)) := (hbel.cell (by exact hb)).trans c0
      have d1 : wo.cell? ⟨b, off + k * 4 + 1, none⟩ = some (.int .i64 (T.D k)) := (hbel.cell (by exact hb)).trans c1
      have d2 : wo.cell? ⟨b, off + k * 4 + 2, none⟩ = some (.int .i64 (T.J k)) := (hbel.cell (by exact hb)).trans c2
      have d3 : wo.cell? ⟨b, off + k * 4 + 3, none⟩ = some (.slice (T.A k) (T.L k) (T.C k)) := (hbel.cell (by exact hb)).trans c3
      have HP : Hid _ := hp
      clear c0 c1 c2 c3 hp
      obtain ⟨f0, f1, f2, f3⟩ := lf_at (T := T) (S := S) hlt
      have l0 : wo.cell? ⟨Lb, k * 4, none⟩ = some (.int .i64 (T.P k)) := (hri.lrow.cell (by omega)).trans (by rw [f0])
      have l1 : wo.cell? ⟨Lb, k * 4 + 1, none⟩ = some (.int .i64 (T.D k)) := (hri.lrow.cell (by omega)).trans (by rw [f1])
      have l2 : wo.cell? ⟨Lb, k * 4 + 2, none⟩ = some (.int .i64 (T.J k)) := (hri.lrow.cell (by omega)).trans (by rw [f2])
      have l3 : wo.cell? ⟨Lb, k * 4 + 3, none⟩ = some (.slice (some ⟨S k, 0, none⟩) (T.L k) (T.L k + 1)) := (hri.lrow.cell (by omega)).trans (by rw [f3])
      clear f0 f1 f2 f3
      have hLbl : Lb < wo.heap.size := hri.lrow.lt
      have hgal : ga < wo.heap.size := (hri.own.lt ga rfl).2
      have ha : wo.cell? ⟨ga, k, none⟩ = some (.slice (some ⟨S k, 0, none⟩) (T.L k + 1) (T.L k + 1)) := by
        have := hri.own.cells (g := ga) rfl k (.slice (some ⟨S k, 0, none⟩) (T.L k + 1) (T.L k + 1)) (by simp [allOf, hlt])
        rwa [Addr.add_lit, Nat.zero_add] at this
      have hLk := HF.out.hL k hlt
      go_wp2_with fail
      clear d0 d1 d2 d3 l0 l1 l2 l3 ha
      have hSl : S k < wo.heap.size := (hri.rows k hlt).lt
      have HR : Hid (RQ n k Lb Wb T S (.slice (some ⟨ga, 0, none⟩) n acap) (lf T S n) (Gk T k 0) M M1 V V1 C [] last w wo) := hri
      clear hri hbel
      go_loopw [15] (fun jv wi => ∃ j : Nat, j ≤ T.L k + 1 ∧ jv = .int .i64 j ∧ RQ n k Lb Wb T S (.slice (some ⟨ga, 0, none⟩) n acap) (lf T S n) (Gk T k j) M M1 V V1 C [] last w wi ∧
          wi.cell? ⟨wo.heap.size + 1, 3, none⟩ = some (.slice (T.A k) (T.L k) (T.C k)) ∧ wo.heap.size + 2 ≤ wi.heap.size)
        (fun jv _ => T.L k + 1 - (intOf jv).toNat)
      case atStart => exact ⟨0, by omega, rfl, (RQ.alloc HR.out _).alloc _, by simp, by simp⟩
      case round =>
        obtain ⟨j, hj, rfl, hrj, hbox, hzi⟩ := hrel
        by_cases hjl : j ≤ T.L k
        · have s0 : wr.cell? ⟨S k, j * 2, none⟩ = some (sf (T.K k) (T.N k) (T.L k) (j * 2)) := ((hrj.rows k hlt).cell (by omega)).trans (by rw [Gk_at (by omega)])
          have s1 : wr.cell? ⟨S k, j * 2 + 1, none⟩ = some (sf (T.K k) (T.N k) (T.L k) (j * 2 + 1)) := ((hrj.rows k hlt).cell (by omega)).trans (by rw [Gk_at (by omega)])
          have sz : ∀ q, wr.frozen? ⟨S k, q, none⟩ = false := fun q => (hrj.rows k hlt).frozen q
          have hSi : S k < wr.heap.size := by omega
          have hbi : B0 ≤ wr.heap.size := by omega
          have HRJ : Hid _ := hrj
          have HBX : Hid _ := hbox
          by_cases hjlt : j < T.L k
          · obtain ⟨pb, poff, hA, hpb, hst⟩ := HP.out.2 (by omega)
            have hpb0 : pb < B0 := HTB.out k hlt (by omega) _ hA
            have p0 : wr.cell? ⟨pb, poff + j * 2, none⟩ = some (.int .i64 (T.K k j)) := ((hrj.below HF.out).cell (by exact hpb0)).trans (hst j hjlt).1
            have p1 : wr.cell? ⟨pb, poff + j * 2 + 1, none⟩ = some (.int .i64 (T.N k j)) := ((hrj.below HF.out).cell (by exact hpb0)).trans (hst j hjlt).2
            have hbox2 := hbox
            rw [hA] at hbox2
            have HBX2 : Hid (T.A k = some ⟨pb, poff, none⟩) := hA
            clear hA hst hbox hrj
            rw [(sf_at hjlt).1] at s0
            rw [(sf_at hjlt).2] at s1
            have hpbi : pb < wr.heap.size := by omega
            have hbxi : wo.heap.size + 1 < wr.heap.size := by omega
            go_wp2_with fail
            go_quiet (fail)
            go_wp2
            go_roundw
            case rel =>
              exact ⟨j + 1, by omega, by go_num, RQ_step HF.out hlt hjl HRJ.out _ _, box_step HBX.out hbxi (by omega), size_step hzi⟩
            case measure => simp [intOf]; omega
          · obtain rfl : j = T.L k := by omega
            rw [sf_end (by omega)] at s0 s1
            clear hbox hrj
            have hbxi : wo.heap.size + 1 < wr.heap.size := by omega
            go_wp2_with fail
            go_quiet (fail)
            go_wp2
            go_roundw
            case rel =>
              exact ⟨T.L k + 1, by omega, by go_num, RQ_step HF.out hlt (Nat.le_refl _) HRJ.out _ _, box_step HBX.out hbxi (by omega), size_step hzi⟩
            case measure => first | (simp [intOf]; done) | (simp [intOf]; omega)
        · obtain rfl : j = T.L k + 1 := by omega
          have hbi : B0 ≤ wr.heap.size := by omega
          obtain ⟨ov, hov⟩ : ∃ ov, ov = V1 6 := ⟨_, rfl⟩
          have hw6 : wr.cell? ⟨Wb, 6, none⟩ = some ov := by rw [hov]; exact hrj.lm.cellW (by omega)
          have hwl : Wb < wr.heap.size := hrj.lm.row.lt
          have hown1 : wr.ownsRow 0 75 1 ov (rC C T S k [] 6).length (rC C T S k [] 6) := by rw [hov]; exact hrj.lm.own 6 (by omega)
          have hfn := HF.out.hn
          have HRJ : Hid (RQ n k Lb Wb T S (.slice (some ⟨ga, 0, none⟩) n acap) (lf T S n) (Gk T k (T.L k + 1)) M M1 V V1 C [] last w wr) := hrj
          have hals : (rC C T S k [] 6).length ≤ (C 6).length + k := by rw [rC_6]; simp [allOf]
          have HOV : Hid (ov = V1 6) := hov
          clear hrj hbox hov
          go_wp2_with (at_builtin; refine wpList_append_own3 _ rfl _ _ 29 rfl 0 75 i4 (.slice none 0 0) 1 24 Tryz.underlying29 hi4 hz40 hz41 hz42 rfl (by decide) _ _ _ rfl (hown1.alloc _) ⟨wr.heap.size, 0, none⟩ 1 1 [.slice (some ⟨S k, 0, none⟩) (T.L k + 1) (T.L k + 1)] rfl rfl ?_ ?_ ?_ ?_ ?_ ?_)
          any_goals (first | exact rfl | exact cell_one_at _ _ rfl _ _ | exact one_oneCell rfl | (unfold maxLen; omega) | omega)
          intro v5 w5 hown5 hg5
          rw [HOV.out] at hg5
          have hri5 := (RQ.alloc HRJ.out (.cells #[.slice (some ⟨S k, 0, none⟩) (T.L k + 1) (T.L k + 1)] 75)).push HF.out (i := 6) (.inl rfl) hown5 hg5 (rC_S C T S k [])
          have hw5 := (RQ.alloc HRJ.out (.cells #[.slice (some ⟨S k, 0, none⟩) (T.L k + 1) (T.L k + 1)] 75)).lm.row' (i := 6) (by omega) hg5
          obtain ⟨g5, cap5, hv5⟩ := own_slice hown5
          rw [hv5] at hri5 ⊢
          have hw56 : w5.cell? ⟨Wb, 6, none⟩ = some ov := by rw [hw5.cell (by omega), HOV.out]; rfl
          have hwz : ∀ q, w5.frozen? ⟨Wb, q, none⟩ = false := fun q => hw5.frozen q
          have HRI5 : Hid _ := hri5
          clear hri5 hw5 hown5 hg5 hown1 hw6 hv5
          go_wp2
          go_roundw
          case rel => exact ⟨k + 1, _, _, by omega, by go_num, RQ.congr HRI5.out (fun _ _ => rfl) (fun i _ q hq => Gk_next hq)⟩
          case measure => simp [intOf]; omega
    · obtain rfl : k = n := by omega
      have HR : Hid (RQ k k Lb Wb T S (.slice (some ⟨ga, 0, none⟩) k acap) (lf T S k) (Gk T k 0) M M1 V V1 C [] last w wo) := hri
      clear hri hbel
      go_wp2_with fail
      go_loopw [17] (fun iv wi => ∃ i : Nat, i ≤ k + 1 ∧ iv = .int .i64 i ∧ RQ k k Lb Wb T S (.slice (some ⟨ga, 0, none⟩) k acap) (Lk T S k i) (Gk T k 0) M M1 V V1 C [] last w wi)
        (fun iv _ => k + 1 - (intOf iv).toNat)
      case atStart => exact ⟨0, by omega, rfl, RQ.congr HR.out (fun q _ => by unfold Lk; rw [if_neg (by omega)]) (fun _ _ _ _ => rfl)⟩
      case round =>
        obtain ⟨i, hi, rfl, hrj⟩ := hrel
        by_cases hil : i ≤ k
        · have l0 : wr.cell? ⟨Lb, i * 4, none⟩ = some (Lk T S k i (i * 4)) := hrj.lrow.cell (by omega)
          have l1 : wr.cell? ⟨Lb, i * 4 + 1, none⟩ = some (Lk T S k i (i * 4 + 1)) := hrj.lrow.cell (by omega)
          have l2 : wr.cell? ⟨Lb, i * 4 + 2, none⟩ = some (Lk T S k i (i * 4 + 2)) := hrj.lrow.cell (by omega)
          have l3 : wr.cell? ⟨Lb, i * 4 + 3, none⟩ = some (Lk T S k i (i * 4 + 3)) := hrj.lrow.cell (by omega)
          have lz : ∀ q, wr.frozen? ⟨Lb, q, none⟩ = false := fun q => hrj.lrow.frozen q
          have HRJ : Hid (RQ k k Lb Wb T S (.slice (some ⟨ga, 0, none⟩) k acap) (Lk T S k i) (Gk T k 0) M M1 V V1 C [] last w wr) := hrj
          clear hrj
          go_wp2
          go_roundw
          case rel => exact ⟨i + 1, by omega, by go_num, RQ_stepL HF.out HRJ.out⟩
          case measure => first | (simp [intOf]; done) | (simp [intOf]; omega)
        · obtain rfl : i = k + 1 := by omega
          obtain ⟨ov, hov⟩ : ∃ ov, ov = V1 7 := ⟨_, rfl⟩
          have hw7 : wr.cell? ⟨Wb, 7, none⟩ = some ov := by rw [hov]; exact hrj.lm.cellW (by omega)
          have hwl : Wb < wr.heap.size := hrj.lm.row.lt
          have hown1 : wr.ownsRow 0 22 1 ov (rC C T S k [] 7).length (rC C T S k [] 7) := by rw [hov]; exact hrj.lm.own 7 (by omega)
          have hft := HF.out.ht
          have hals : (rC C T S k [] 7).length ≤ (C 7).length := by rw [rC_7, List.append_nil]; exact Nat.le_refl _
          have HRJ : Hid (RQ k k Lb Wb T S (.slice (some ⟨ga, 0, none⟩) k acap) (Lk T S k (k + 1)) (Gk T k 0) M M1 V V1 C [] last w wr) := hrj
          have HOV : Hid (ov = V1 7) := hov
          clear hrj hov
          go_wp2_with (at_builtin; refine wpList_append_own3 _ rfl _ _ 30 rfl 0 22 i2 (.slice none 0 0) 1 24 Tryz.underlying30 hi2 hz20 hz21 hz22 rfl (by decide) _ _ _ rfl (hown1.alloc _) ⟨wr.heap.size, 0, none⟩ 1 1 [.slice (some ⟨Lb, 0, none⟩) (k + 1) (k + 1)] rfl rfl ?_ ?_ ?_ ?_ ?_ ?_)
          any_goals (first | exact rfl | exact cell_one_at _ _ rfl _ _ | exact one_oneCell rfl | (unfold maxLen; omega) | omega)
          intro v5 w5 hown5 hg5
          rw [HOV.out] at hg5
          have hri5 := (RQ.alloc HRJ.out (.cells #[.slice (some ⟨Lb, 0, none⟩) (k + 1) (k + 1)] 22)).push HF.out (i := 7) (.inr rfl) hown5 hg5 (rC_T C T S k _)
          have hw5 := (RQ.alloc HRJ.out (.cells #[.slice (some ⟨Lb, 0, none⟩) (k + 1) (k + 1)] 22)).lm.row' (i := 7) (by omega) hg5
          obtain ⟨g5, cap5, hv5⟩ := own_slice hown5
          rw [hv5] at hri5 ⊢
          have hw57 : w5.cell? ⟨Wb, 7, none⟩ = some ov := by rw [hw5.cell (by omega), HOV.out]; rfl
          have hwz : ∀ q, w5.frozen? ⟨Wb, q, none⟩ = false := fun q => hw5.frozen q
          have HRI5 : Hid _ := hri5
          clear hri5 hw5 hown5 hg5 hown1 hw7 hv5
          go_wp2
          go_ret
          exact ⟨rfl, _, _, RQ.congr HRI5.out (fun q hq => by unfold Lk; rw [if_pos hq]) (fun i hi q _ => by unfold Gk; rw [if_pos hi])⟩

set_option maxRecDepth 100000 in
set_option maxHeartbeats 1000000 in
theorem returned_gen0 (ao : Option Addr) (cap B0 Lb Wb : Nat) (T : TD) (S : Nat → Nat) (v : Value) (M : Nat → Prop) (V1 : Nat → Value) (C : Nat → List Value) (last : Int) (w : World)
    (hf : RQF B0 0 Lb T S v M C w) (hi : RQ 0 0 Lb Wb T S v (lf T S 0) (Gk T 0 0) M M V1 V1 C [] last w w) :
    Calls Tryz.prog 20 #[.pointer (some ⟨Wb, 0, none⟩), .slice (some ⟨Lb, 0, none⟩) (0 + 1) (0 + 1), v, .slice ao 0 cap] w fun e w' => e = .returned (.bool true) ∧
      ∃ M' V', RQ 0 0 Lb Wb T S v nz (fun _ => neg7) M M' V1 V' C [.slice (some ⟨Lb, 0, none⟩) (0 + 1) (0 + 1)] last w w' := by
  obtain ⟨i2, hi2, hz20, hz21, hz22⟩ := info_parts Tryz.info22
  have HI : Hid (RQ 0 0 Lb Wb T S v (lf T S 0) (Gk T 0 0) M M V1 V1 C [] last w w) := hi
  have HF : Hid (RQF B0 0 Lb T S v M C w) := hf
  have l0 : w.cell? ⟨Lb, 0, none⟩ = some (.int .i64 0) := (hi.lrow.cell (by omega)).trans (by rfl)
  have l1 : w.cell? ⟨Lb, 1, none⟩ = some (.int .i64 0) := (hi.lrow.cell (by omega)).trans (by rfl)
  have l2 : w.cell? ⟨Lb, 2, none⟩ = some (.int .i64 0) := (hi.lrow.cell (by omega)).trans (by rfl)
  have l3 : w.cell? ⟨Lb, 3, none⟩ = some (.slice none 0 0) := (hi.lrow.cell (by omega)).trans (by rfl)
  have lz : ∀ q, w.frozen? ⟨Lb, q, none⟩ = false := fun q => hi.lrow.frozen q
  have hri0 : RQ 0 0 Lb Wb T S v (Lk T S 0 1) (Gk T 0 0) M M V1 V1 C [] last w ((((w.setCell ⟨Lb, 0, none⟩ (.int .i64 (-7))).setCell ⟨Lb, 1, none⟩ (.int .i64 0)).setCell ⟨Lb, 2, none⟩ (.int .i64 0)).setCell ⟨Lb, 3, none⟩ (.slice none 0 0)) :=
    RQ_stepL (i := 0) HF.out (RQ.congr (LF' := Lk T S 0 0) (G' := Gk T 0 0) HI.out (fun q _ => by unfold Lk; rw [if_neg (by omega)]) (fun _ _ _ _ => rfl))
  clear hi hf
  go_enter Tryz.func20, Tryz.ntmps20
  go_wp2_with fail
  refine wp_loop_rounds 1 ?_
  rw [rounds_succ]
  go_wp2_with fail
  refine wp_loop_rounds 2 ?_
  rw [rounds_succ]
  go_wp2_with fail
  generalize hW : ((((w.setCell ⟨Lb, 0, none⟩ (.int .i64 (-7))).setCell ⟨Lb, 1, none⟩ (.int .i64 0)).setCell ⟨Lb, 2, none⟩ (.int .i64 0)).setCell ⟨Lb, 3, none⟩ (.slice none 0 0)) = W1 at *
  clear hW l0 l1 l2 l3 lz HI
  have hrj := hri0
  clear hri0
  obtain ⟨ov, hov⟩ : ∃ ov, ov = V1 7 := ⟨_, rfl⟩
  have hw7 : W1.cell? ⟨Wb, 7, none⟩ = some ov := by rw [hov]; exact hrj.lm.cellW (by omega)
  have hwl : Wb < W1.heap.size := hrj.lm.row.lt
  have hown1 : W1.ownsRow 0 22 1 ov (rC C T S 0 [] 7).length (rC C T S 0 [] 7) := by rw [hov]; exact hrj.lm.own 7 (by omega)
  have hft := HF.out.ht
  have hals : (rC C T S 0 [] 7).length ≤ (C 7).length := by rw [rC_7, List.append_nil]; exact Nat.le_refl _
  have HRJ : Hid (RQ 0 0 Lb Wb T S v (Lk T S 0 1) (Gk T 0 0) M M V1 V1 C [] last w W1) := hrj
  have HOV : Hid (ov = V1 7) := hov
  clear hrj hov
  rw [rounds_succ]
  go_wp2_with (at_builtin; refine wpList_append_own3 _ rfl _ _ 30 rfl 0 22 i2 (.slice none 0 0) 1 24 Tryz.underlying30 hi2 hz20 hz21 hz22 rfl (by decide) _ _ _ rfl (hown1.alloc _) ⟨W1.heap.size, 0, none⟩ 1 1 [.slice (some ⟨Lb, 0, none⟩) (0 + 1) (0 + 1)] rfl rfl ?_ ?_ ?_ ?_ ?_ ?_)
  any_goals (first | exact rfl | exact cell_one_at _ _ rfl _ _ | exact one_oneCell rfl | (unfold maxLen; omega) | omega)
  intro v5 w5 hown5 hg5
  rw [HOV.out] at hg5
  have hri5 := (RQ.alloc HRJ.out (.cells #[.slice (some ⟨Lb, 0, none⟩) (0 + 1) (0 + 1)] 22)).push HF.out (i := 7) (.inr rfl) hown5 hg5 (rC_T C T S 0 _)
  have hw5 := (RQ.alloc HRJ.out (.cells #[.slice (some ⟨Lb, 0, none⟩) (0 + 1) (0 + 1)] 22)).lm.row' (i := 7) (by omega) hg5
  obtain ⟨g5, cap5, hv5⟩ := own_slice hown5
  rw [hv5] at hri5 ⊢
  have hw57 : w5.cell? ⟨Wb, 7, none⟩ = some ov := by rw [hw5.cell (by omega), HOV.out]; rfl
  have hwz : ∀ q, w5.frozen? ⟨Wb, q, none⟩ = false := fun q => hw5.frozen q
  have HRI5 : Hid _ := hri5
  clear hri5 hw5 hown5 hg5 hown1 hw7 hv5
  go_wp2
  go_ret
  exact ⟨rfl, _, _, RQ.congr HRI5.out (fun q hq => by unfold Lk; rw [if_pos (by omega)]) (fun i hi q _ => by omega)⟩

end Go.Proofs.YtdabcflpcklfiaaGreat

/- The law: lent tasks come back, in the form that its callers use. -/
namespace Go.Proofs.YtdabcflpcklfiaaGreat
open Go.RowKit Cad

theorem LE.addR {E : Nat → Prop} {w : World} {C : Nat → List Value} (h : LE E w C) {T : TD} {S : Nat → Nat} {n : Nat} {tk : List Value} (h6 : ∀ v ∈ allOf T S n, ElAt w E 86 2 neg7 v) (h7 : ∀ v ∈ tk, ElAt w E 77 4 nz v) : LE E w (rC C T S n tk) where
  jlen := by rw [rC_o _ _ _ _ _ (by decide) (by decide), rC_o _ _ _ _ _ (by decide) (by decide)]; exact h.jlen
  je i u hu := by
    rw [rC_o _ _ _ _ _ (by decide) (by decide)] at hu ⊢
    exact h.je i u hu
  ilen := by rw [rC_o _ _ _ _ _ (by decide) (by decide), rC_o _ _ _ _ _ (by decide) (by decide)]; exact h.ilen
  ie i u hu := by
    rw [rC_o _ _ _ _ _ (by decide) (by decide)] at hu ⊢
    exact h.ie i u hu
  te u hu := by
    rw [rC_o _ _ _ _ _ (by decide) (by decide)] at hu
    exact h.te u hu
  pe u hu := by
    rw [rC_6] at hu
    rcases List.mem_append.1 hu with g | g
    · exact h.pe u g
    · exact h6 u g
  ke u hu := by
    rw [rC_7] at hu
    rcases List.mem_append.1 hu with g | g
    · exact h.ke u g
    · exact h7 u g

theorem rq_end {n Lb Wb : Nat} {T : TD} {S : Nat → Nat} {v : Value} {w5 w6 : World} {M E M' : Nat → Prop} {V V' : Nat → Value} {C : Nat → List Value} {last : Int} (he : LE E w5 C) (hd : Dis E (fun q => M q ∨ q = Lb ∨ ∃ j, j < n ∧ q = S j)) (hn8 : n * 48 ≤ 140737488351232) (hL : ∀ i, i < n → T.L i * 16 ≤ 140737488351232)
    (h : RQ n n Lb Wb T S v nz (fun _ => neg7) M M' V V' C [.slice (some ⟨Lb, 0, none⟩) (n + 1) (n + 1)] last w5 w6) :
    RetE w5 w6 Wb n Lb S M E M' (fun q => E q ∨ q = Lb ∨ ∃ j, j < n ∧ q = S j) V V' C (rC C T S n [.slice (some ⟨Lb, 0, none⟩) (n + 1) (n + 1)]) last := by
  have hlen : (allOf T S n).length = n := by simp [allOf]
  refine ⟨h.lm, ((he.other h.fr hd).mono (fun q g => .inl g)).addR (fun u hu => ?_) (fun u hu => ?_), h.mf, fun q g => g, h.fr, fun i hi h6 h7 => ⟨rC_o _ _ _ _ _ h6 h7, h.vo i h6 h7⟩, ?_⟩
  · obtain ⟨j, hj, rfl⟩ := List.mem_map.1 hu
    have hjn : j < n := List.mem_range.1 hj
    have hLj := hL j hjn
    exact ⟨_, T.L j + 1, _, rfl, by omega, fun _ => ⟨S j, rfl, .inr (.inr ⟨j, hjn, rfl⟩), ⟨_, _, h.rows j hjn⟩, fun q hq => (h.rows j hjn).cell hq⟩⟩
  · rw [List.mem_singleton.1 hu]
    exact ⟨_, n + 1, _, rfl, by omega, fun _ => ⟨Lb, rfl, .inr (.inl rfl), ⟨_, _, h.lrow⟩, fun q hq => h.lrow.cell hq⟩⟩
  · rw [rC_6, rC_7, List.length_append, List.length_append, hlen]
    exact ⟨Nat.le_refl _, Nat.le_refl _⟩

theorem ret_gen {B0 b off n cap Wb : Nat} {tO : Option Addr} {T : TD} {w w1 w5 : World} {S : Nat → Nat} {v : Value} {M E : Nat → Prop} {V : Nat → Value} {C : Nat → List Value} {last : Int} (hm : LM M w Wb V C last) (he : LE E w C) (hd : Dis M E) (loM : Lo M w.heap.size) (loE : Lo E w.heap.size) (hMB : ∀ q, M q → B0 ≤ q) (hC : ∀ i, i < 8 → (C i).length ≤ 100000000)
    (ha : TArg w B0 b n tO off T) (hB0 : B0 ≤ w.heap.size) (hl : LentInv w.heap.size n n T S v w w1) (hb : Below w1.heap.size w1 w5) :
    Calls Tryz.prog 20 #[.pointer (some ⟨Wb, 0, none⟩), .slice (some ⟨w.heap.size, 0, none⟩) (n + 1) (n + 1), v, .slice tO n cap] w5 fun e w' => e = .returned (.bool true) ∧
      ∃ M' E' V' C', RetE w5 w' Wb n w.heap.size S M E M' E' V V' C C' last := by
  have hs1 : w.heap.size < w1.heap.size := hl.lrow.lt
  have hs5 := hb.size
  have hb05 : Below w.heap.size w w5 := hl.below.trans (hb.mono (by omega))
  have hSl : ∀ j, j < n → w.heap.size < S j ∧ S j < w1.heap.size := fun j hj => ⟨hl.sgt j hj, (hl.srow j hj).lt⟩
  have c6 := hC 6 (by omega)
  have c7 := hC 7 (by omega)
  have n8 := ha.n8
  have hf : RQF B0 n w.heap.size T S v M C w5 := by
    refine ⟨by omega, by omega, n8, ha.l8, by omega, hMB, ⟨hB0, by omega, fun g => ?_⟩, fun j hj => ?_, hl.sord, fun g hg => ?_⟩
    · have := loM _ g; omega
    · have := hSl j hj
      exact ⟨by omega, by omega, fun g => by have := loM _ g; omega⟩
    · have := hl.own.lt g hg
      exact ⟨by omega, fun q => by have := loM _ q; omega⟩
  have hri : RQ n 0 w.heap.size Wb T S v (lf T S n) (Gk T 0 0) M M V V C [] last w5 w5 := by
    refine ⟨by rw [rC_0]; exact hm.below hb05, row_below hl.lrow hb, fun j hj => (row_below (hl.srow j hj) hb).congr (fun q hq => ?_), own_base (own_below hl.own hb), Fr.refl _ _, fun q g => .inl g, fun i _ _ => rfl⟩
    unfold Gk
    rw [if_neg (by omega)]
    by_cases e : j = 0
    · rw [if_pos e, if_neg (by omega)]
    · rw [if_neg e]
  have he5 : LE E w5 C := he.other (Fr.of_below (fun _ => False) hb05) (fun _ _ g => g)
  have hdE : Dis E (fun q => M q ∨ q = w.heap.size ∨ ∃ j, j < n ∧ q = S j) := fun q h1 h2 => by
    have := loE q h1
    rcases h2 with g | g | ⟨j, hj, g⟩
    · exact hd q g h1
    · omega
    · have := hSl j hj; omega
  by_cases h1 : 1 ≤ n
  · obtain ⟨ga, acap, hv, _, _⟩ := own_some hl.own h1
    subst hv
    obtain ⟨rfl, hbB⟩ := ha.some' h1
    refine Calls.mono (returned_gen b off n cap B0 w.heap.size Wb ga acap T S M V C last w5 h1 hbB (TasksAt.below ha.tasks (by omega) hb05) ha.progs hf hri) ?_
    rintro e w6 ⟨hee, M', V', h6⟩
    exact ⟨hee, _, _, _, _, rq_end he5 hdE n8 ha.l8 h6⟩
  · obtain rfl : n = 0 := by omega
    refine Calls.mono (returned_gen0 tO cap B0 w.heap.size Wb T S v M V C last w5 hf hri) ?_
    rintro e w6 ⟨hee, M', V', h6⟩
    exact ⟨hee, _, _, _, _, rq_end he5 hdE n8 ha.l8 h6⟩

end Go.Proofs.YtdabcflpcklfiaaGreat

/- The law All: its lists move, a side is added. -/
namespace Go.Proofs.YtdabcflpcklfiaaGreat
open Go.RowKit Cad

/-- The law's lists have moved, nothing else. -/
structure MV (w w' : World) (Wb k : Nat) (M E M' E' : Nat → Prop) (V' : Nat → Value) (C C' : Nat → List Value) (last last' : Int) : Prop where
  lm : LM M' w' Wb V' C' last'
  le : LE E' w' C'
  dis : Dis M' E'
  mf : ∀ q, M' q → M q ∨ (w.heap.size ≤ q ∧ q < w'.heap.size)
  ef : ∀ q, E' q → E q ∨ (w.heap.size ≤ q ∧ q < w'.heap.size)
  fr : Fr M w w'
  cl : ∀ i, i < 8 → (C' i).length ≤ (C i).length + k
  c0 : C' 0 = C 0
  la : last - 1 ≤ last' ∧ last' ≤ last

theorem OpenE.mv {w w' : World} {Wb n : Nat} {M E M' E' : Nat → Prop} {V' : Nat → Value} {C C' : Nat → List Value} {last : Int} (h : OpenE w w' Wb n M E M' E' V' C C' last) : MV w w' Wb (n + 1) M E M' E' V' C C' last last :=
  ⟨h.lm, h.le, h.dis, h.mf, h.ef, h.fr, h.cl, h.c0, by omega, by omega⟩

/-- Where the law's lists stand. -/
structure LW (B0 Wb : Nat) (w : World) (M E : Nat → Prop) (V : Nat → Value) (C : Nat → List Value) (last : Int) : Prop where
  lm : LM M w Wb V C last
  le : LE E w C
  dis : Dis M E
  loM : Lo M w.heap.size
  loE : Lo E w.heap.size
  mb : ∀ q, M q → B0 ≤ q
  bb : B0 ≤ w.heap.size

theorem LW.move {B0 Wb k : Nat} {w w' : World} {M E M' E' : Nat → Prop} {V V' : Nat → Value} {C C' : Nat → List Value} {last last' : Int} (h : LW B0 Wb w M E V C last) (g : MV w w' Wb k M E M' E' V' C C' last last') : LW B0 Wb w' M' E' V' C' last' := by
  have hz := g.fr.size
  have hb := h.bb
  refine ⟨g.lm, g.le, g.dis, fun q hq => ?_, fun q hq => ?_, fun q hq => ?_, by omega⟩
  · rcases g.mf q hq with e | e
    · have := h.loM q e; omega
    · omega
  · rcases g.ef q hq with e | e
    · have := h.loE q e; omega
    · omega
  · rcases g.mf q hq with e | e
    · exact h.mb q e
    · omega

theorem PS.move {B0 Wb k n : Nat} {w0 w w' : World} {sb xb yb : Nat → Nat} {S : Nat → Sy} {m : Nat → Mc} {FK FR : Nat → Nat → Prop} {M E M' E' : Nat → Prop} {V V' : Nat → Value} {C C' : Nat → List Value} {last last' : Int} (h : PS B0 w0 w Wb n sb xb yb S m FK FR M E V C last) (hl : LW B0 Wb w M E V C last) (g : MV w w' Wb k M E M' E' V' C C' last last') :
    PS B0 w0 w' Wb n sb xb yb S m FK FR M' E' V' C' last' := by
  have hl' := hl.move g
  have hbb := hl.bb
  have hM : ∀ {G : Nat → Prop}, Lo G w.heap.size → Dis G M → Dis G M' := fun hlo hd q h1 h2 => by
    rcases g.mf q h2 with e | e
    · exact hd q h1 e
    · have := hlo q h1; omega
  have hE : ∀ {G : Nat → Prop}, Lo G w.heap.size → Dis G E → Dis G E' := fun hlo hd q h1 h2 => by
    rcases g.ef q h2 with e | e
    · exact hd q h1 e
    · have := hlo q h1; omega
  refine ⟨fun i hi => ?_, h.dd, g.lm, g.le, fun i hi => ?_, fun i hi => ?_, h.sn, fun i hi q => ?_, by rw [g.c0]; exact h.sl, fun q hq => ⟨fun e => ?_, (h.b0 q hq).2⟩, h.below.trans (g.fr.below hbb hl.mb), h.base⟩
  · have ha := h.st i hi
    exact ⟨ha.sp.other g.fr ha.d2 ha.d4, g.lm, g.le, g.dis, hM ha.sp.loK ha.d2, hE ha.sp.loK ha.d3, hM ha.sp.loR ha.d4, hE ha.sp.loR ha.d5, hl'.loM, hl'.loE⟩
  · exact (g.fr.cell (World.block_lt_of_cell? w ⟨sb i, 0, none⟩ (h.s0 i hi)) (h.sm i hi)).trans (h.s0 i hi)
  · exact (g.fr.cell (World.block_lt_of_cell? w ⟨sb i, 0, none⟩ (h.s0 i hi)) (h.sm i hi)).trans (h.s1 i hi)
  · rcases g.mf _ q with e | e
    · exact h.sm i hi e
    · have hlt : sb i < w.heap.size := World.block_lt_of_cell? w ⟨sb i, 0, none⟩ (h.s0 i hi)
      omega
  · have := hl'.mb q e
    omega

theorem PS.push {B0 Wb n k : Nat} {w0 w w' : World} {sb xb yb : Nat → Nat} {S : Nat → Sy} {FK FR : Nat → Nat → Prop} {M E M' E' FK' FR' : Nat → Prop} {V V' : Nat → Value} {C C' : Nat → List Value} {last : Int} {S' : Sy} {sd xb' yb' : Nat} (h : PS B0 w0 w Wb k sb xb yb S (fun _ => Cad.start) FK FR M E V C last) (hl : LW B0 Wb w M E V C last) (g : OSide w w' Wb n M E M' E' V' C C' last S' sd xb' yb' FK' FR') :
    PS B0 w0 w' Wb (k + 1) (upd sb k sd) (upd xb k xb') (upd yb k yb') (upd S k S') (fun _ => Cad.start) (upd FK k FK') (upd FR k FR') M' E' V' C' last := by
  have hbb := hl.bb
  have hz := g.fr.size
  have hM : ∀ {G : Nat → Prop}, Lo G w.heap.size → Dis G M → Dis G M' := fun hlo hd q h1 h2 => by
    rcases g.mf q h2 with e | e
    · exact hd q h1 e
    · have := hlo q h1; omega
  have hE : ∀ {G : Nat → Prop}, Lo G w.heap.size → Dis G E → Dis G E' := fun hlo hd q h1 h2 => by
    rcases g.ef q h2 with e | e
    · exact hd q h1 e
    · have := hlo q h1; omega
  have old : ∀ i, i < k + 1 → i ≠ k → i < k := fun i h1 h2 => by omega
  have slt : ∀ i, i < k → sb i < w.heap.size := fun i hi => World.block_lt_of_cell? w ⟨sb i, 0, none⟩ (h.s0 i hi)
  refine ⟨fun i hi => ?_, fun a b ha hb hab => ?_, g.st.lm, g.st.le, fun i hi => ?_, fun i hi => ?_, fun a b ha hb => ?_, fun i hi => ?_, ?_, fun q hq => ⟨fun e => ?_, fun i hi => ?_⟩, h.below.trans (g.fr.below hbb hl.mb), h.base⟩
  · by_cases e : i = k
    · subst e
      rw [upd_same, upd_same, upd_same, upd_same, upd_same]
      exact g.st
    · rw [upd_other _ _ e, upd_other _ _ e, upd_other _ _ e, upd_other _ _ e, upd_other _ _ e]
      have ha := h.st i (old i hi e)
      exact ⟨ha.sp.other g.fr ha.d2 ha.d4, g.st.lm, g.st.le, g.st.d1, hM ha.sp.loK ha.d2, hE ha.sp.loK ha.d3, hM ha.sp.loR ha.d4, hE ha.sp.loR ha.d5, g.st.loM, g.st.loE⟩
  · by_cases ea : a = k
    · subst ea
      have hb' := h.st b (old b hb (fun e => hab e.symm))
      rw [upd_same, upd_same, upd_other _ _ (fun e => hab e.symm), upd_other _ _ (fun e => hab e.symm)]
      refine ⟨fun q h1 h2 => ?_, fun q h1 h2 => ?_, fun q h1 h2 => ?_⟩
      · have := g.kf q h1; have := hb'.sp.loK q h2; omega
      · have := g.kf q h1; have := hb'.sp.loR q h2; omega
      · have := g.rf q h1; have := hb'.sp.loR q h2; omega
    · have ha' := h.st a (old a ha ea)
      rw [upd_other _ _ ea, upd_other _ _ ea]
      by_cases eb : b = k
      · subst eb
        rw [upd_same, upd_same]
        refine ⟨fun q h1 h2 => ?_, fun q h1 h2 => ?_, fun q h1 h2 => ?_⟩
        · have := g.kf q h2; have := ha'.sp.loK q h1; omega
        · have := g.rf q h2; have := ha'.sp.loK q h1; omega
        · have := g.rf q h2; have := ha'.sp.loR q h1; omega
      · rw [upd_other _ _ eb, upd_other _ _ eb]
        exact h.dd a b (old a ha ea) (old b hb eb) hab
  · by_cases e : i = k
    · subst e
      rw [upd_same, upd_same]
      exact g.s0
    · rw [upd_other _ _ e, upd_other _ _ e]
      exact (g.fr.cell (slt i (old i hi e)) (h.sm i (old i hi e))).trans (h.s0 i (old i hi e))
  · by_cases e : i = k
    · subst e
      rw [upd_same, upd_same]
      exact g.s1
    · rw [upd_other _ _ e, upd_other _ _ e]
      exact (g.fr.cell (slt i (old i hi e)) (h.sm i (old i hi e))).trans (h.s1 i (old i hi e))
  · by_cases ea : a = k
    · subst ea
      rw [upd_same]
      by_cases eb : b = a
      · subst eb
        rw [upd_same, upd_same]
        rintro (q | q)
        · exact g.sn (.inl q)
        · exact g.sn (.inr (.inl q))
      · have hb' := h.st b (old b hb eb)
        have hsl := g.sl
        rw [upd_other _ _ eb, upd_other _ _ eb]
        rintro (q | q)
        · have := hb'.sp.loK _ q; omega
        · have := hb'.sp.loR _ q; omega
    · have hlt := slt a (old a ha ea)
      rw [upd_other _ _ ea]
      by_cases eb : b = k
      · subst eb
        rw [upd_same, upd_same]
        rintro (q | q)
        · have := g.kf _ q; omega
        · have := g.rf _ q; omega
      · rw [upd_other _ _ eb, upd_other _ _ eb]
        exact h.sn a b (old a ha ea) (old b hb eb)
  · by_cases e : i = k
    · subst e
      rw [upd_same]
      exact fun q => g.sn (.inr (.inr q))
    · rw [upd_other _ _ e]
      intro q
      have hlt := slt i (old i hi e)
      rcases g.mf _ q with e' | e'
      · exact h.sm i (old i hi e) e'
      · omega
  · rw [g.c0, h.sl, List.range_succ, List.map_append]
    congr 1
    · refine List.map_congr_left (fun i hi => ?_)
      have := List.mem_range.1 hi
      rw [upd_other _ _ (by omega)]
    · rw [List.map_singleton, upd_same]
  · rcases g.mf q e with e' | e'
    · have := hl.mb q e'; omega
    · omega
  · by_cases e : i = k
    · subst e
      rw [upd_same, upd_same]
      refine ⟨fun x => ?_, fun x => ?_⟩
      · have := g.kf q x; omega
      · have := g.rf q x; omega
    · rw [upd_other _ _ e, upd_other _ _ e]
      exact (h.b0 q hq).2 i (old i hi e)

/-- Where the law stands before the script: k sides, lists of r elements at most, s marks at most. -/
def AL (B0 r s k Wb : Nat) (w0 w : World) : Prop :=
  ∃ sb xb yb S FK FR M E V C last, PS B0 w0 w Wb k sb xb yb S (fun _ => Cad.start) FK FR M E V C last ∧ LW B0 Wb w M E V C last ∧ (∀ i, i < 8 → (C i).length ≤ r) ∧ -(s : Int) ≤ last ∧ last ≤ 0

theorem AL.move {B0 r s k j Wb : Nat} {w0 w w' : World} {sb xb yb : Nat → Nat} {S : Nat → Sy} {FK FR : Nat → Nat → Prop} {M E M' E' : Nat → Prop} {V V' : Nat → Value} {C C' : Nat → List Value} {last last' : Int} (hp : PS B0 w0 w Wb k sb xb yb S (fun _ => Cad.start) FK FR M E V C last) (hl : LW B0 Wb w M E V C last) (hc : ∀ i, i < 8 → (C i).length ≤ r) (h0 : -(s : Int) ≤ last) (h1 : last ≤ 0)
    (g : MV w w' Wb j M E M' E' V' C C' last last') : AL B0 (r + j) (s + 1) k Wb w0 w' := by
  have := g.la
  refine ⟨_, _, _, _, _, _, _, _, _, _, _, hp.move hl g, hl.move g, fun i hi => ?_, by omega, by omega⟩
  have := hc i hi
  have := g.cl i hi
  omega

theorem AL.px {B0 r s k ns Wb : Nat} {w0 w : World} (h : AL B0 r s k Wb w0 w) (hr : r ≤ 100000000) (hs : s ≤ 1000) (hns : ns ≤ 10000000) : ∃ sb xb yb S, PX B0 ns k Wb w0 w sb xb yb S := by
  obtain ⟨sb, xb, yb, S, FK, FR, M, E, V, C, last, hp, hl, hc, h0, h1⟩ := h
  have hcl : ∀ i, i < 8 → (C i).length + 4 * ns ≤ 1000000000 := fun i hi => by have := hc i hi; omega
  exact ⟨sb, xb, yb, S, _, FK, FR, M, E, V, C, last, hp, fun i hi => ⟨by show (0 : Int) + _ ≤ _; omega, by show (0 : Int) + _ ≤ _; omega, hcl, by omega, h1⟩, hcl⟩

theorem AL.below {B0 r s k Wb : Nat} {w0 w : World} (h : AL B0 r s k Wb w0 w) : Below B0 w0 w ∧ B0 ≤ w0.heap.size := by
  obtain ⟨sb, xb, yb, S, FK, FR, M, E, V, C, last, hp, hl, hc, h0, h1⟩ := h
  exact ⟨hp.below, hp.base⟩

theorem al_start {B0 Wb : Nat} {w : World} (hW : w.rowIs Wb 32 9 (wf9 (.slice none 0 0) (.slice none 0 0) fnil)) (hWb : B0 ≤ Wb) (hB0 : B0 ≤ w.heap.size) : AL B0 0 0 0 Wb w w := by
  have hlm := fresh_lm hW
  have hle := fresh_le w
  have hlt := hW.lt
  refine ⟨fun _ => 0, fun _ => 0, fun _ => 0, fun _ => ⟨0, fun _ => 0, fun _ => 0, fun _ => 0, fun _ => 0, fun _ _ => 0, fun _ _ => 0, fun _ => 0⟩, fun _ _ => False, fun _ _ => False, _, _, _, _, _, ⟨fun i hi => by omega, fun i j hi => by omega, hlm, hle, fun i hi => by omega, fun i hi => by omega, fun i j hi => by omega, fun i hi => by omega, rfl, fun q hq => ⟨fun e => ?_, fun i hi => by omega⟩, Below.refl _ _, hB0⟩, ⟨hlm, hle, fun q _ h => h, fun q h => ?_, fun q h => h.elim, fun q h => ?_, hB0⟩, fun i _ => Nat.le_refl _, by omega, by omega⟩
  · have e' : q = Wb := e
    omega
  · have e' : q = Wb := h
    omega
  · have e' : q = Wb := h
    omega

theorem TArg.at {w w' : World} {B0 b n off : Nat} {tO : Option Addr} {T : TD} (h : TArg w B0 b n tO off T) (hb : Below B0 w w') (_hB : B0 ≤ w.heap.size) : TArg w' B0 b n tO off T := by
  refine ⟨h.some', fun i hi => ?_, h.progs, h.n8, h.l8⟩
  obtain ⟨_, hbB⟩ := h.some' (by omega)
  obtain ⟨h0, h1, h2, h3, h4, h5⟩ := h.tasks i hi
  refine ⟨(hb.cell (by exact hbB)).trans h0, (hb.cell (by exact hbB)).trans h1, (hb.cell (by exact hbB)).trans h2, (hb.cell (by exact hbB)).trans h3, h4, fun hl => ?_⟩
  obtain ⟨pb, po, e1, e2, e3⟩ := h5 hl
  have hpB : pb < B0 := h.progs i hi hl _ e1
  exact ⟨pb, po, e1, Nat.lt_of_lt_of_le e2 hb.size, fun q hq => ⟨(hb.cell (by exact hpB)).trans (e3 q hq).1, (hb.cell (by exact hpB)).trans (e3 q hq).2⟩⟩

theorem PArg.at {w w' : World} {B0 pn : Nat} {ao : Option Addr} {Z : Nat → Int} (h : PArg w B0 pn ao Z) (hb : Below B0 w w') : PArg w' B0 pn ao Z :=
  ⟨h.1, fun h1 => by
    obtain ⟨pb, po, e1, e2, e3⟩ := h.2 h1
    exact ⟨pb, po, e1, e2, fun q hq => (hb.cell (by exact e2)).trans (e3 q hq)⟩⟩

theorem opens_al {B0 b off n cap Wb pn pc r s k : Nat} {tO ao : Option Addr} {T : TD} {Z : Nat → Int} {w0 w : World} (h : AL B0 r s k Wb w0 w) (hr : r ≤ 100000000) (ha0 : TArg w0 B0 b n tO off T) (hp0 : PArg w0 B0 pn ao Z) :
    Calls Tryz.prog 6 #[.pointer (some ⟨Wb, 0, none⟩), .slice tO n cap, .slice ao pn pc] w fun e w' => e = .returned (.bool true) ∧ ∃ k', k' ≤ k + 1 ∧ AL B0 (r + (n + 1)) (s + 1) k' Wb w0 w' := by
  obtain ⟨hbel, hB00⟩ := h.below
  have ha := ha0.at hbel hB00
  have hp := hp0.at hbel
  obtain ⟨sb, xb, yb, S, FK, FR, M, E, V, C, last, hps, hl, hc, h0, h1'⟩ := h
  have hC5 : ∀ i, i < 8 → (C i).length ≤ 100000000 := fun i hi => Nat.le_trans (hc i hi) hr
  have hB0 := hl.bb
  have hret := fun (w1 w5 : World) (S : Nat → Nat) (v : Value) (h1 : LentInv w.heap.size n n T S v w w1) (h2 : Below w1.heap.size w1 w5) => ret_gen (cap := cap) hl.lm hl.le hl.dis hl.loM hl.loE hl.mb hC5 ha hB0 h1 h2
  have bad : ∀ (Er Ax : Int), (∀ (S : Nat → Nat) (wx : World), TasksAt wx w.heap.size 0 n (T.lent S) → w.heap.size < wx.heap.size → ∀ qb, qb < wx.heap.size → IntsAt wx qb 0 pn Z → Calls Tryz.prog 18 #[.slice (some ⟨w.heap.size, 0, none⟩) n (n + 1), .slice (some ⟨qb, 0, none⟩) pn (pn + 1)] wx fun e w' => e = .returned (.tuple #[.pointer none, .int .i64 Er, .int .i64 Ax]) ∧ Below wx.heap.size wx w') →
      (∀ wx, Below w.heap.size w wx → Calls Tryz.prog 19 #[.slice tO n cap, .slice ao pn pc] wx fun e w' => e = .returned (.tuple #[.pointer none, .int .i64 Er, .int .i64 Ax]) ∧ Below wx.heap.size wx w') →
      Calls Tryz.prog 6 #[.pointer (some ⟨Wb, 0, none⟩), .slice tO n cap, .slice ao pn pc] w fun e w' => e = .returned (.bool true) ∧ ∃ k', k' ≤ k + 1 ∧ AL B0 (r + (n + 1)) (s + 1) k' Wb w0 w' := by
    intro Er Ax hk hr'
    refine Calls.mono (opens_bad hl.lm hl.le hl.dis hl.loM hl.loE hl.mb hC5 ha hp hB0 hk hr' hret) ?_
    rintro e w' ⟨he, M', E', V', C', hop⟩
    exact ⟨he, k, by omega, AL.move hps hl hc h0 h1' hop.mv⟩
  obtain ⟨x, y, hxy⟩ : ∃ x y, chkR T n = (x, y) := ⟨_, _, rfl⟩
  by_cases hx : x = 0
  · subst hx
    obtain ⟨hg, rfl⟩ := good_of_chk hxy
    have h1 := hg.one
    obtain ⟨rfl, hbB⟩ := ha.some' h1
    by_cases hpp : pn = n ∧ PrioB Z n
    · obtain ⟨rfl, hpr⟩ := hpp
      refine Calls.mono (opens_ok hl.lm hl.le hl.dis hl.loM hl.loE hl.mb hC5 ha hp hB0 hxy rfl hpr hret) ?_
      rintro e w' ⟨he, M', E', V', C', sd, xb', yb', FK', FR', hos⟩
      refine ⟨he, k + 1, Nat.le_refl _, _, _, _, _, _, _, _, _, _, _, _, hps.push hl hos, ⟨hos.st.lm, hos.st.le, hos.st.d1, hos.st.loM, hos.st.loE, fun q hq => ?_, Nat.le_trans hB0 hos.fr.size⟩, fun i hi => ?_, by omega, h1'⟩
      · rcases hos.mf q hq with g | g
        · exact hl.mb q g
        · omega
      · have := hos.cl i hi
        have := hc i hi
        omega
    · refine bad 4 0 (fun S wx ht hlt qb hq hz => ?_) (fun wx hb => ?_)
      · refine new_ord w.heap.size 0 n (n + 1) (some ⟨qb, 0, none⟩) pn (pn + 1) (T.lent S) wx hxy hlt ht ?_
        by_cases e : pn = n
        · exact .inr ⟨qb, 0, Z, rfl, e, hq, by rw [← e]; exact hz, fun g => hpp ⟨e, g⟩⟩
        · exact .inl e
      · have hz := hb.size
        refine rnew_bad (refana_ord b off n cap ao pn pc T wx hxy (by omega) (TasksAt.below ha.tasks (by omega) hb) ?_) (by decide)
        by_cases e : pn = n
        · obtain ⟨pb, po, e1, e2, e3⟩ := hp.2 (by omega)
          exact .inr ⟨pb, po, Z, e1, e, by omega, by rw [← e]; exact IntsAt.below e3 (by omega) hb, fun g => hpp ⟨e, (order_iff Z n).1 g⟩⟩
        · exact .inl e
  · refine bad x y (fun S wx ht hlt qb hq hz => new_err w.heap.size 0 n (n + 1) _ (T.lent S) x y wx hxy hx (by have := ha.n8; omega) hlt ht) (fun wx hb => ?_)
    by_cases h1 : 1 ≤ n
    · obtain ⟨rfl, hbB⟩ := ha.some' h1
      exact rnew_bad (refana_err b off n cap _ T x y wx hxy hx (by have := ha.n8; omega) (by have := hb.size; omega) (TasksAt.below ha.tasks (by omega) hb)) hx
    · obtain rfl : n = 0 := by omega
      have e : chkR T 0 = (1, 0) := by unfold chkR; rw [if_neg (by omega)]
      rw [e] at hxy
      cases hxy
      exact rnew_bad (refana_none2 tO cap _ wx) (by decide)

end Go.Proofs.YtdabcflpcklfiaaGreat
