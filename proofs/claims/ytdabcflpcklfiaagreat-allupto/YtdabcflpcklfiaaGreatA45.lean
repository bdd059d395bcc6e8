import Derived.Test.YtdabcflpcklfiaaGreatA44
/- The law: what is told. -/
namespace Go.Proofs.YtdabcflpcklfiaaGreat
open Go.RowKit Cad

/-- A side and the law's lists, each in blocks of its own. -/
structure AS (w : World) (Wb xb yb : Nat) (S : Sy) (m : Mc) (FK FR M E : Nat → Prop) (V : Nat → Value) (C : Nat → List Value) (last : Int) : Prop where
  sp : SP w xb yb S m FK FR
  lm : LM M w Wb V C last
  le : LE E w C
  d1 : Dis M E
  d2 : Dis FK M
  d3 : Dis FK E
  d4 : Dis FR M
  d5 : Dis FR E
  loM : Lo M w.heap.size
  loE : Lo E w.heap.size

/-- Nothing has turned but theirs. -/
structure AM (w w' : World) (FK FR M E FK' FR' M' E' : Nat → Prop) : Prop where
  fr : Fr (fun q => FK q ∨ FR q ∨ M q) w w'
  fk : ∀ q, FK' q → FK q ∨ w.heap.size ≤ q
  fy : ∀ q, FR' q → FR q ∨ w.heap.size ≤ q
  fm : ∀ q, M' q → M q ∨ w.heap.size ≤ q
  fe : ∀ q, E' q → E q ∨ w.heap.size ≤ q

theorem AM.trans {a b c : World} {K0 R0 M0 E0 K1 R1 M1 E1 K2 R2 M2 E2 : Nat → Prop} (h : AM a b K0 R0 M0 E0 K1 R1 M1 E1) (g : AM b c K1 R1 M1 E1 K2 R2 M2 E2) : AM a c K0 R0 M0 E0 K2 R2 M2 E2 := by
  have hs := h.fr.size
  refine ⟨h.fr.trans g.fr (fun q hq => ?_), fun q hq => ?_, fun q hq => ?_, fun q hq => ?_, fun q hq => ?_⟩
  · rcases hq with hq | hq | hq
    · rcases h.fk q hq with e | e
      · exact .inl (.inl e)
      · exact .inr e
    · rcases h.fy q hq with e | e
      · exact .inl (.inr (.inl e))
      · exact .inr e
    · rcases h.fm q hq with e | e
      · exact .inl (.inr (.inr e))
      · exact .inr e
  · rcases g.fk q hq with e | e
    · exact h.fk q e
    · exact .inr (by omega)
  · rcases g.fy q hq with e | e
    · exact h.fy q e
    · exact .inr (by omega)
  · rcases g.fm q hq with e | e
    · exact h.fm q e
    · exact .inr (by omega)
  · rcases g.fe q hq with e | e
    · exact h.fe q e
    · exact .inr (by omega)

theorem AM.below {w w' : World} {FK FR M E : Nat → Prop} (hb : Below w.heap.size w w') : AM w w' FK FR M E FK FR M E := ⟨Fr.of_below _ hb, fun _ h => .inl h, fun _ h => .inl h, fun _ h => .inl h, fun _ h => .inl h⟩

theorem AM.of_side {w w' : World} {FK FR M E FK' FR' : Nat → Prop} (h : SPM w w' FK FR FK' FR') : AM w w' FK FR M E FK' FR' M E :=
  ⟨h.fr.mono (fun q g => by
    rcases g with g | g
    · exact .inl g
    · exact .inr (.inl g)), h.fk, h.fy, fun _ g => .inl g, fun _ g => .inl g⟩

/-- The side has moved, the law's lists stand. -/
theorem AS.side {w w' : World} {Wb xb yb : Nat} {S : Sy} {m m' : Mc} {FK FR M E FK' FR' : Nat → Prop} {V : Nat → Value} {C : Nat → List Value} {last : Int} (h : AS w Wb xb yb S m FK FR M E V C last) (hsp : SP w' xb yb S m' FK' FR') (hm : SPM w w' FK FR FK' FR') : AS w' Wb xb yb S m' FK' FR' M E V C last := by
  have a1 : Dis M (fun q => FK q ∨ FR q) := fun q h1 h2 => by
    rcases h2 with g | g
    · exact h.d2 q g h1
    · exact h.d4 q g h1
  have a2 : Dis E (fun q => FK q ∨ FR q) := fun q h1 h2 => by
    rcases h2 with g | g
    · exact h.d3 q g h1
    · exact h.d5 q g h1
  refine ⟨hsp, h.lm.other hm.fr a1, h.le.other hm.fr a2, h.d1, fun q h1 h2 => ?_, fun q h1 h2 => ?_, fun q h1 h2 => ?_, fun q h1 h2 => ?_, h.loM.mono hm.fr.size, h.loE.mono hm.fr.size⟩
  · rcases hm.fk q h1 with g | g
    · exact h.d2 q g h2
    · have := h.loM q h2; omega
  · rcases hm.fk q h1 with g | g
    · exact h.d3 q g h2
    · have := h.loE q h2; omega
  · rcases hm.fy q h1 with g | g
    · exact h.d4 q g h2
    · have := h.loM q h2; omega
  · rcases hm.fy q h1 with g | g
    · exact h.d5 q g h2
    · have := h.loE q h2; omega

theorem AS.below {w w' : World} {Wb xb yb : Nat} {S : Sy} {m : Mc} {FK FR M E : Nat → Prop} {V : Nat → Value} {C : Nat → List Value} {last : Int} (h : AS w Wb xb yb S m FK FR M E V C last) (hb : Below w.heap.size w w') : AS w' Wb xb yb S m FK FR M E V C last :=
  h.side (h.sp.below hb) ⟨Fr.of_below _ hb, fun _ g => .inl g, fun _ g => .inl g⟩

theorem jobF_at {l : List Rc} {i : Nat} {r : Rc} (h : l[i]? = some r) : jobF l (i * 5) = .int .i64 r.task ∧ jobF l (i * 5 + 1) = .int .i64 r.arr ∧ jobF l (i * 5 + 2) = .int .i64 r.rel ∧ jobF l (i * 5 + 3) = .int .i64 r.done ∧ jobF l (i * 5 + 4) = .int .i64 r.left := by
  have k : ∀ c u, c < 5 → (recC r)[c]? = some u → jobF l (i * 5 + c) = u := by
    intro c u hc hu
    unfold jobF
    rw [show (i * 5 + c) / 5 = i by omega, show (i * 5 + c) % 5 = c by omega, List.getD_eq_getElem?_getD, keptC_at h c (by omega), hu]
    rfl
  exact ⟨k 0 _ (by omega) rfl, k 1 _ (by omega) rfl, k 2 _ (by omega) rfl, k 3 _ (by omega) rfl, k 4 _ (by omega) rfl⟩

theorem tell_at : ∀ {l : List Rc} {i : Nat} {r : Rc}, l[i]? = some r → ∀ c, c < 5 → ((l.map viewC).flatMap tellC)[i * 5 + c]? = (tellC (viewC r))[c]?
  | [], i, r, h, c, hc => by simp at h
  | x :: l, 0, r, h, c, hc => by
    simp at h
    subst h
    show (tellC (viewC x) ++ (l.map viewC).flatMap tellC)[0 * 5 + c]? = _
    rw [List.getElem?_append_left (by show 0 * 5 + c < 5; omega)]
    simp
  | x :: l, i + 1, r, h, c, hc => by
    show (tellC (viewC x) ++ (l.map viewC).flatMap tellC)[(i + 1) * 5 + c]? = _
    rw [List.getElem?_append_right (by show 5 ≤ (i + 1) * 5 + c; omega)]
    show ((l.map viewC).flatMap tellC)[(i + 1) * 5 + c - 5]? = _
    rw [show (i + 1) * 5 + c - 5 = i * 5 + c by omega]
    exact tell_at (by simpa using h) c hc

/-- The bounds that hold, with room for s more steps. -/
structure BD (s : Nat) (m : Mc) (C : Nat → List Value) (last : Int) : Prop where
  now : m.now + 300 * (s : Int) ≤ 900000000000000000
  arr : m.arrd + (s : Int) ≤ 1000000000
  len : ∀ i, i < 8 → (C i).length + 4 * s ≤ 1000000000
  lo : -1000000000 ≤ last - (s : Int)
  hi : last ≤ 0

/-- What some steps leave. -/
structure SE (j : Nat) (w w' : World) (Wb xb yb : Nat) (S : Sy) (m m' : Mc) (FK FR M E FK' FR' M' E' : Nat → Prop) (V V' : Nat → Value) (C C' : Nat → List Value) (last last' : Int) : Prop where
  st : AS w' Wb xb yb S m' FK' FR' M' E' V' C' last'
  am : AM w w' FK FR M E FK' FR' M' E'
  c0 : C' 0 = C 0 ∧ V' 0 = V 0
  cl : ∀ i, i < 8 → (C' i).length ≤ (C i).length + 4 * j
  now : m'.now ≤ m.now + 300 * (j : Int)
  arr : m'.arrd ≤ m.arrd + (j : Int)
  la : last - (j : Int) ≤ last' ∧ last' ≤ last

theorem BD.after {s j : Nat} {w w' : World} {Wb xb yb : Nat} {S : Sy} {m m' : Mc} {FK FR M E FK' FR' M' E' : Nat → Prop} {V V' : Nat → Value} {C C' : Nat → List Value} {last last' : Int} (h : BD (s + j) m C last) (g : SE j w w' Wb xb yb S m m' FK FR M E FK' FR' M' E' V V' C C' last last') : BD s m' C' last' := by
  have a1 := h.now
  have a2 := h.arr
  have a3 := h.lo
  have a4 := h.hi
  have b1 := g.now
  have b2 := g.arr
  have b3 := g.la
  refine ⟨by omega, by omega, fun i hi => ?_, by omega, by omega⟩
  have := h.len i hi
  have := g.cl i hi
  omega

theorem BD.mono {s s' : Nat} {m : Mc} {C : Nat → List Value} {last : Int} (h : BD s m C last) (hs : s' ≤ s) : BD s' m C last := by
  have a1 := h.now
  have a2 := h.arr
  have a3 := h.lo
  refine ⟨by omega, by omega, fun i hi => ?_, by omega, h.hi⟩
  have := h.len i hi
  omega

theorem SE.trans {j j' : Nat} {w w' w2 : World} {Wb xb yb : Nat} {S : Sy} {m m' m2 : Mc} {FK FR M E FK' FR' M' E' K2 R2 M2 E2 : Nat → Prop} {V V' V2 : Nat → Value} {C C' C2 : Nat → List Value} {last last' last2 : Int}
    (g : SE j w w' Wb xb yb S m m' FK FR M E FK' FR' M' E' V V' C C' last last') (h : SE j' w' w2 Wb xb yb S m' m2 FK' FR' M' E' K2 R2 M2 E2 V' V2 C' C2 last' last2) : SE (j + j') w w2 Wb xb yb S m m2 FK FR M E K2 R2 M2 E2 V V2 C C2 last last2 := by
  have a1 := h.now
  have a2 := h.arr
  have a3 := h.la
  have b1 := g.now
  have b2 := g.arr
  have b3 := g.la
  refine ⟨h.st, g.am.trans h.am, ⟨h.c0.1.trans g.c0.1, h.c0.2.trans g.c0.2⟩, fun i hi => ?_, by omega, by omega, by omega⟩
  have := h.cl i hi
  have := g.cl i hi
  omega

theorem SE.below {j : Nat} {w w' w2 : World} {Wb xb yb : Nat} {S : Sy} {m m' : Mc} {FK FR M E FK' FR' M' E' : Nat → Prop} {V V' : Nat → Value} {C C' : Nat → List Value} {last last' : Int}
    (g : SE j w w' Wb xb yb S m m' FK FR M E FK' FR' M' E' V V' C C' last last') (hb : Below w'.heap.size w' w2) : SE j w w2 Wb xb yb S m m' FK FR M E FK' FR' M' E' V V' C C' last last' :=
  { g with st := g.st.below hb, am := g.am.trans (AM.below hb) }

set_option maxRecDepth 100000 in
set_option maxHeartbeats 16000000 in
theorem told_any (hS : SortC) {w : World} {Wb sb xb yb : Nat} {S : Sy} {m : Mc} {FK FR M E : Nat → Prop} {V : Nat → Value} {C : Nat → List Value} {last : Int} (h : AS w Wb xb yb S m FK FR M E V C last) (hbd : BD 0 m C last)
    (hs0 : w.cell? ⟨sb, 0, none⟩ = some (.pointer (some ⟨xb, 0, none⟩))) (hs1 : w.cell? ⟨sb, 1, none⟩ = some (.pointer (some ⟨yb, 0, none⟩))) (hsn : ¬ FK sb) :
    Calls Tryz.prog 49 #[.pointer (some ⟨Wb, 0, none⟩), .pointer (some ⟨sb, 0, none⟩)] w fun e w' => e = .returned (.bool true) ∧ ∃ FK' FR' M' E' V' C', SE 1 w w' Wb xb yb S m m FK FR M E FK' FR' M' E' V V' C C' last (last - 1) := by
  have hsl : sb < w.heap.size := World.block_lt_of_cell? w ⟨sb, 0, none⟩ hs0
  have HA : Hid (AS w Wb xb yb S m FK FR M E V C last) := h
  have HBD : Hid (BD 0 m C last) := hbd
  have HN : Hid (¬ FK sb) := hsn
  have hJ := kg_jobs hS h.sp.k
  have HJ : Hid _ := hJ
  clear h hbd hsn hJ
  go_enter Tryz.func49, Tryz.ntmps49
  go_wp2_with fail
  refine Calls.mono HJ.out ?_
  rintro e w1 ⟨g, l, rfl, hg, hrow, hperm, hsort, hk, hf⟩
  have hl104 := recs_len HA.out.sp.k.ok hperm
  have hgl1 := hrow.lt
  have c1 : w1.cell? ⟨sb, 1, none⟩ = some (.pointer (some ⟨yb, 0, none⟩)) := (hf.cell hsl HN.out).trans hs1
  have hsl1 : sb < w1.heap.size := Nat.lt_of_lt_of_le hsl hf.size
  have hsp1 : SP w1 xb yb S m (fun q => Nx FK w.heap.size w1.heap.size q ∧ q ≠ g) FR := ⟨hk, HA.out.sp.r.other hf HA.out.sp.dis.symm, HA.out.sp.lk, (HA.out.sp.dis.nx HA.out.sp.loR).mono (fun q h => h.1), fun q h => HA.out.sp.loK.nx hf.size q h.1, HA.out.sp.loR.mono hf.size⟩
  have hm1 : SPM w w1 FK FR (fun q => Nx FK w.heap.size w1.heap.size q ∧ q ≠ g) FR := ⟨hf.mono (fun q h => .inl h), fun q h => by
    rcases h.1 with e | e
    · exact .inl e
    · exact .inr e.1, fun q h => .inl h⟩
  have ha1 := HA.out.side hsp1 hm1
  have HA1 : Hid (AS w1 Wb xb yb S m (fun q => Nx FK w.heap.size w1.heap.size q ∧ q ≠ g) FR M E V C last) := ha1
  have HM1 : Hid (SPM w w1 FK FR (fun q => Nx FK w.heap.size w1.heap.size q ∧ q ≠ g) FR) := hm1
  have HROW : Hid (w1.rowIs g 93 (l.length * 5) (jobF l)) := hrow
  have HT : Hid (Calls Tryz.prog 78 #[.pointer (some ⟨yb, 0, none⟩)] w1 fun e w' => ∃ v, e = .returned v ∧ w'.ownsRow w1.heap.size 93 5 v l.length ((l.map viewC).flatMap tellC) ∧ Below w1.heap.size w1 w') := rg_told hsp1.r hsp1.k.ok (by have := HBD.out.now; omega) (by have := HBD.out.arr; omega) hperm hsort
  clear hk hf hrow hsp1 hm1 ha1 hperm hsort hs0 hs1
  go_wp2_with fail
  refine Calls.mono HT.out ?_
  rintro e w2 ⟨v, rfl, hown, hb2⟩
  obtain ⟨vo, vc, hvs⟩ := own_shapeK hown
  subst hvs
  have HOW : Hid (w2.ownsRow w1.heap.size 93 5 (.slice vo l.length vc) l.length ((l.map viewC).flatMap tellC)) := hown
  have HB2 : Hid (Below w1.heap.size w1 w2) := hb2
  have hle : ((l.length : Int) != (l.length : Int)) = false := by simp
  clear hown hb2 HT
  go_wp2_with fail
  go_loopw [7] (fun iv wr => ∃ i : Nat, i ≤ l.length ∧ iv = .int .i64 i ∧ Below w2.heap.size w2 wr) (fun iv _ => l.length - (intOf iv).toNat)
  case atStart => exact ⟨0, Nat.zero_le _, rfl, Below.refl _ _⟩
  case round =>
    obtain ⟨i, hi, rfl, hb⟩ := hrel
    have HB : Hid (Below w2.heap.size w2 wr) := hb
    have hs2 := HB2.out.size
    have hsr := hb.size
    by_cases hlt : i < l.length
    · obtain ⟨r, hr⟩ : ∃ r, l[i]? = some r := ⟨_, List.getElem?_eq_getElem hlt⟩
      obtain ⟨j0, j1, j2, j3, j4⟩ := jobF_at hr
      have hgb : wr.heap[g]? = w1.heap[g]? := (hb.block g (by omega)).trans (HB2.out.block g hgl1)
      have x0 : wr.cell? ⟨g, i * 5, none⟩ = some (.int .i64 r.task) := (cell_same hgb).trans ((HROW.out.cell (by omega)).trans (by rw [j0]))
      have x1 : wr.cell? ⟨g, i * 5 + 1, none⟩ = some (.int .i64 r.arr) := (cell_same hgb).trans ((HROW.out.cell (by omega)).trans (by rw [j1]))
      have x2 : wr.cell? ⟨g, i * 5 + 2, none⟩ = some (.int .i64 r.rel) := (cell_same hgb).trans ((HROW.out.cell (by omega)).trans (by rw [j2]))
      have x3 : wr.cell? ⟨g, i * 5 + 3, none⟩ = some (.int .i64 r.done) := (cell_same hgb).trans ((HROW.out.cell (by omega)).trans (by rw [j3]))
      have x4 : wr.cell? ⟨g, i * 5 + 4, none⟩ = some (.int .i64 r.left) := (cell_same hgb).trans ((HROW.out.cell (by omega)).trans (by rw [j4]))
      obtain ⟨gv, vc', hv', _, hgv⟩ : ∃ gv vc', Value.slice vo l.length vc = .slice (some ⟨gv, 0, none⟩) l.length vc' ∧ w1.heap.size ≤ gv ∧ gv < w2.heap.size := by
        rcases HOW.out.2 with ⟨_, h0⟩ | ⟨gv, cap, cur, hv, hbb, hgg, _⟩
        · omega
        · exact ⟨gv, cap, hv, hbb, (Array.getElem?_eq_some_iff.1 hgg).1⟩
      cases hv'
      have hy : ∀ c u, c < 5 → (tellC (viewC r))[c]? = some u → wr.cell? ⟨gv, i * 5 + c, none⟩ = some u := by
        intro c u hc hu
        have := HOW.out.cells (g := gv) rfl (i * 5 + c) u (by rw [tell_at hr c hc]; exact hu)
        rw [Addr.add_lit, Nat.zero_add] at this
        exact (cell_same (hb.block gv hgv)).trans this
      have y0 : wr.cell? ⟨gv, i * 5, none⟩ = some (.int .i64 r.task) := hy 0 _ (by omega) rfl
      have y1 : wr.cell? ⟨gv, i * 5 + 1, none⟩ = some (.int .i64 r.arr) := hy 1 _ (by omega) rfl
      have y2 : wr.cell? ⟨gv, i * 5 + 2, none⟩ = some (.int .i64 r.rel) := hy 2 _ (by omega) rfl
      have y3 : wr.cell? ⟨gv, i * 5 + 3, none⟩ = some (.int .i64 r.done) := hy 3 _ (by omega) rfl
      have y4 : wr.cell? ⟨gv, i * 5 + 4, none⟩ = some (.int .i64 r.left) := hy 4 _ (by omega) rfl
      have hglr : g < wr.heap.size := by omega
      have hgvr : gv < wr.heap.size := by omega
      generalize r.task = r0 at *
      generalize r.arr = r1 at *
      generalize r.rel = r2 at *
      generalize r.done = r3 at *
      generalize r.left = r4 at *
      have e0 : (r0 != r0) = false := by simp
      have e1 : (r1 != r1) = false := by simp
      have e2 : (r2 != r2) = false := by simp
      have e3 : (r3 != r3) = false := by simp
      have e4 : (r4 != r4) = false := by simp
      clear hy hgb hb j0 j1 j2 j3 j4 hr
      go_wp2_with fail
      go_quiet (fail)
      go_wp2
      go_roundw
      case rel => exact ⟨i + 1, by omega, by go_num, by first | exact HB.out | exact below_drewM HB.out _⟩
      case measure => simp [intOf]; omega
    · have har : AS wr Wb xb yb S m (fun q => Nx FK w.heap.size w1.heap.size q ∧ q ≠ g) FR M E V C last := (HA1.out.below HB2.out).below hb
      have HAR : Hid (AS wr Wb xb yb S m (fun q => Nx FK w.heap.size w1.heap.size q ∧ q ≠ g) FR M E V C last) := har
      have hbb : Below w1.heap.size w1 wr := HB2.out.trans (hb.mono hs2)
      have HBB : Hid (Below w1.heap.size w1 wr) := hbb
      clear har hbb hb
      have hne : decide (i < l.length) = false := decide_eq_false hlt
      go_wp2_with fail
      refine (kept_any HAR.out.lm HAR.out.le (fun i hi => by have := HBD.out.len i hi; omega)).mono ?_
      rintro e w3 ⟨rfl, hb3⟩
      have ha3 := HAR.out.below hb3
      have hb13 : Below w1.heap.size w1 w3 := HBB.out.trans (hb3.mono HBB.out.size)
      have hg3 : w3.rowIs g 93 (l.length * 5) (jobF l) := HROW.out.of_block (hb13.block g hgl1)
      have HA3 : Hid (AS w3 Wb xb yb S m (fun q => Nx FK w.heap.size w1.heap.size q ∧ q ≠ g) FR M E V C last) := ha3
      have HB13 : Hid (Below w1.heap.size w1 w3) := hb13
      have hgM : ¬ M g := fun q => by have := HA.out.loM g q; omega
      have hgE : ¬ E g := fun q => by have := HA.out.loE g q; omega
      have HKJ : Hid _ := keepJobs_any ha3.lm ha3.le ha3.d1 ha3.loM ha3.loE hg3 hgM hgE (by omega) (by have := HBD.out.lo; omega) HBD.out.hi (fun i hi => by have := HBD.out.len i hi; omega)
      clear hb3 ha3 hb13 hg3 hgM hgE HROW HOW hne
      go_wp2_with fail
      refine Calls.mono HKJ.out ?_
      rintro e w4 ⟨rfl, M', E', V', C', hk⟩
      have HEND : Hid (∃ FK' FR' M' E' V' C', SE 1 w w4 Wb xb yb S m m FK FR M E FK' FR' M' E' V V' C C' last (last - 1)) := by
        have hz3 := HB13.out.size
        have hz1 := HM1.out.fr.size
        have hz4 := hk.fr.size
        have h3 := HA3.out
        have hX1 : Dis (fun q => Nx FK w.heap.size w1.heap.size q ∧ q ≠ g) (fun q => M q ∨ q = g) := fun q h1 h2 => by
          rcases h2 with e | e
          · exact h3.d2 q h1 e
          · exact h1.2 e
        have hX2 : Dis FR (fun q => M q ∨ q = g) := fun q h1 h2 => by
          rcases h2 with e | e
          · exact h3.d4 q h1 e
          · have := HA.out.sp.loR q h1; omega
        have hsp4 := h3.sp.other hk.fr hX1 hX2
        have hcase : ∀ {G : Nat → Prop}, Lo G w3.heap.size → Dis G M → Dis G M' := fun hlo hd q h1 h2 => by
          rcases hk.mf q h2 with e | e
          · exact hd q h1 e
          · have := hlo q h1; omega
        have hcaseE : ∀ {G : Nat → Prop}, Lo G w3.heap.size → Dis G E → ¬ G g → Dis G E' := fun {G} hlo hd hg' q h1 h2 => by
          rcases hk.ef q h2 with e | e | e
          · exact hd q h1 e
          · exact hg' (e ▸ h1)
          · have := hlo q h1; omega
        refine ⟨_, FR, M', E', V', C', ⟨hsp4, hk.lm, hk.le, hk.dis, hcase h3.sp.loK h3.d2, hcaseE h3.sp.loK h3.d3 (fun h => h.2 rfl), hcase h3.sp.loR h3.d4, hcaseE h3.sp.loR h3.d5 (fun h => by have := HA.out.sp.loR g h; omega), fun q hq => ?_, fun q hq => ?_⟩, ⟨?_, HM1.out.fk, HM1.out.fy, fun q hq => ?_, fun q hq => ?_⟩, hk.c0, hk.cl, by omega, by omega, by omega⟩
        · rcases hk.mf q hq with e | e
          · have := h3.loM q e; omega
          · exact e.2
        · rcases hk.ef q hq with e | e | e
          · have := h3.loE q e; omega
          · rw [e]; omega
          · exact e.2
        · have f1 : Fr (fun q => FK q ∨ FR q ∨ M q) w w3 := (HM1.out.fr.mono (fun q h => by
            rcases h with e | e
            · exact .inl e
            · exact .inr (.inl e))).then (Fr.of_below _ HB13.out)
          refine f1.trans hk.fr (fun q hq => ?_)
          rcases hq with e | e
          · exact .inl (.inr (.inr e))
          · exact .inr (by omega)
        · rcases hk.mf q hq with e | e
          · exact .inl e
          · exact .inr (by omega)
        · rcases hk.ef q hq with e | e | e
          · exact .inl e
          · exact .inr (by omega)
          · exact .inr (by omega)
      clear hk
      go_wp2
      go_ret
      exact ⟨rfl, HEND.out⟩

end Go.Proofs.YtdabcflpcklfiaaGreat
