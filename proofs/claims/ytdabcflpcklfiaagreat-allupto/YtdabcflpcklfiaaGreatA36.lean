import Derived.Test.YtdabcflpcklfiaaGreatA35
import Derived.Test.YtdabcflpcklfiaaGreatA34
import Derived.Test.YtdabcflpcklfiaaGreatA27
/- The document's kernel in memory: what a store leaves as it was. -/
namespace Go.Proofs.YtdabcflpcklfiaaGreat
open Go.RowKit Cad

/-- What kinds of blocks the kernel's own lie in. -/
structure RKT (w : World) (tb pb n : Nat) (T : TD) (k : RK) (dv : Nat → Option Addr × Nat) : Prop where
  tt : ∃ sz f, w.rowIs tb 77 sz f
  pt : ∃ sz f, w.rowIs pb 3 sz f
  st : ∀ t, t < n → ∀ a, T.A t = some a → ∃ sz f, w.rowIs a.block 86 sz f
  dt : ∀ (i : Nat) (x : RJ), k.jobs[i]? = some x → ∀ a, (dv i).1 = some a → ∃ sz f, w.rowIs a.block 3 sz f

theorem own_same {w w' : World} {base e size : Nat} {v : Value} {n : Nat} {xs : List Value} (h : w.ownsRow base e size v n xs) (hb : ∀ b, v.ownBlock = some b → w'.heap[b]? = w.heap[b]?) : w'.ownsRow base e size v n xs := by
  refine ⟨h.1, ?_⟩
  rcases h.2 with g | ⟨g, cap, cur, rfl, h1, h2, h3⟩
  · exact .inl g
  · exact .inr ⟨g, cap, cur, rfl, h1, (hb g rfl).trans h2, h3⟩

theorem own_rowE {w : World} {base e size : Nat} {v : Value} {n : Nat} {xs : List Value} (h : w.ownsRow base e size v n xs) {b : Nat} (hb : v.ownBlock = some b) : ∃ sz f, w.rowIs b e sz f := by
  rcases h.2 with ⟨g, _⟩ | ⟨g, cap, cur, rfl, h1, h2, h3⟩
  · rw [g] at hb; cases hb
  · cases hb
    exact ⟨cur.size, fun q => cur.toList.getD q (.int .i64 0), cur, h2, rfl, fun i hi => by simp [List.getD, hi]⟩

theorem cell_same {w w' : World} {b i : Nat} (h : w'.heap[b]? = w.heap[b]?) : w'.cell? ⟨b, i, none⟩ = w.cell? ⟨b, i, none⟩ := by simp [World.cell?, h]

/-- The tasks, the priorities and the demands stand. -/
theorem RKAt.keep {w w' : World} {B kb tb tc pb pc n : Nat} {T : TD} {Z : Nat → Int} {k : RK} {jv : Value} {dv : Nat → Option Addr × Nat} (h : RKAt w B kb tb tc pb pc n T Z k jv dv) (ht : RKT w tb pb n T k dv) {X : Nat → Prop} (hf : Fr X w w') (hX : ∀ b t N F, w.rowIs b t N F → t ≠ 116 → t ≠ 148 → ¬ X b) :
    TasksAt w' tb 0 n T ∧ IntsAt w' pb 0 n Z ∧ (∀ (i : Nat) (x : RJ), k.jobs[i]? = some x → DemAt w' (dv i).1 x.dem) ∧ RKT w' tb pb n T k dv := by
  have hb : ∀ b t N F, w.rowIs b t N F → t ≠ 116 → t ≠ 148 → w'.heap[b]? = w.heap[b]? := fun b t N F hr h1 h2 => hf.block b hr.lt (hX b t N F hr h1 h2)
  obtain ⟨_, _, h1⟩ := ht.tt
  obtain ⟨_, _, h2⟩ := ht.pt
  have b1 := hb _ _ _ _ h1 (by decide) (by decide)
  have b2 := hb _ _ _ _ h2 (by decide) (by decide)
  refine ⟨fun t hlt => ?_, fun a ha => (cell_same b2).trans (h.prio a ha), fun i x hx h1' => ?_, ⟨_, _, h1.of_block b1⟩, ⟨_, _, h2.of_block b2⟩, fun t hlt a ha => ?_, fun i x hx a ha => ?_⟩
  · obtain ⟨q0, q1, q2, q3, q4⟩ := h.tasks t hlt
    refine ⟨(cell_same b1).trans q0, (cell_same b1).trans q1, (cell_same b1).trans q2, (cell_same b1).trans q3, ⟨q4.1, fun g => ?_⟩⟩
    obtain ⟨sb, so, e, hl, hs⟩ := q4.2 g
    obtain ⟨_, _, h3⟩ := ht.st t hlt _ e
    have b3 := hb _ _ _ _ h3 (by decide) (by decide)
    exact ⟨sb, so, e, Nat.lt_of_lt_of_le hl hf.size, fun q hq => ⟨(cell_same b3).trans (hs q hq).1, (cell_same b3).trans (hs q hq).2⟩⟩
  · obtain ⟨rb, rf, e, hl, hi⟩ := h.dems i x hx h1'
    obtain ⟨_, _, h3⟩ := ht.dt i x hx _ e
    have b3 := hb _ _ _ _ h3 (by decide) (by decide)
    exact ⟨rb, rf, e, Nat.lt_of_lt_of_le hl hf.size, fun q hq => (cell_same b3).trans (hi q hq)⟩
  · obtain ⟨_, _, h3⟩ := ht.st t hlt a ha
    exact ⟨_, _, h3.of_block (hb _ _ _ _ h3 (by decide) (by decide))⟩
  · obtain ⟨_, _, h3⟩ := ht.dt i x hx a ha
    exact ⟨_, _, h3.of_block (hb _ _ _ _ h3 (by decide) (by decide))⟩

theorem RKAt.below {w w' : World} {B kb tb tc pb pc n : Nat} {T : TD} {Z : Nat → Int} {k : RK} {jv : Value} {dv : Nat → Option Addr × Nat} (h : RKAt w B kb tb tc pb pc n T Z k jv dv) (hb : Below w.heap.size w w') : RKAt w' B kb tb tc pb pc n T Z k jv dv where
  row := h.row.of_block (hb.block _ h.row.lt)
  tlt := Nat.lt_of_lt_of_le h.tlt hb.size
  plt := Nat.lt_of_lt_of_le h.plt hb.size
  tasks := TasksAt.below h.tasks h.tlt hb
  prio a ha := (hb.cell (p := ⟨pb, 0 + a, none⟩) h.plt).trans (h.prio a ha)
  jobs := own_same h.jobs (fun b hv => hb.block b (h.jobs.lt b hv).2)
  dems i x hx := (h.dems i x hx).below hb

theorem RKT.below {w w' : World} {tb pb n : Nat} {T : TD} {k : RK} {dv : Nat → Option Addr × Nat} (h : RKT w tb pb n T k dv) (hb : Below w.heap.size w w') : RKT w' tb pb n T k dv where
  tt := by obtain ⟨a, f, g⟩ := h.tt; exact ⟨a, f, g.of_block (hb.block _ g.lt)⟩
  pt := by obtain ⟨a, f, g⟩ := h.pt; exact ⟨a, f, g.of_block (hb.block _ g.lt)⟩
  st t ht a ha := by obtain ⟨b, f, g⟩ := h.st t ht a ha; exact ⟨b, f, g.of_block (hb.block _ g.lt)⟩
  dt i x hx a ha := by obtain ⟨b, f, g⟩ := h.dt i x hx a ha; exact ⟨b, f, g.of_block (hb.block _ g.lt)⟩

/-- One of the kernel's own numbers is written. -/
theorem RKAt.setK {w : World} {B kb tb tc pb pc n : Nat} {T : TD} {Z : Nat → Int} {k k' : RK} {jv : Value} {dv : Nat → Option Addr × Nat} (h : RKAt w B kb tb tc pb pc n T Z k jv dv) (ht : RKT w tb pb n T k dv) (q : Nat) (v : Value) (hj : k'.jobs = k.jobs)
    (hc : ∀ p, p < 6 → rkcell (.slice (some ⟨tb, 0, none⟩) n tc) (.slice (some ⟨pb, 0, none⟩) n pc) jv k' p = if p = q then v else rkcell (.slice (some ⟨tb, 0, none⟩) n tc) (.slice (some ⟨pb, 0, none⟩) n pc) jv k p) :
    RKAt (w.setCell ⟨kb, q, none⟩ v) B kb tb tc pb pc n T Z k' jv dv ∧ RKT (w.setCell ⟨kb, q, none⟩ v) tb pb n T k' dv ∧ Fr (fun b => b = kb ∨ jv.ownBlock = some b) w (w.setCell ⟨kb, q, none⟩ v) := by
  have hf : Fr (fun b => b = kb) w (w.setCell ⟨kb, q, none⟩ v) := (Fr.refl (fun b => b = kb) w).setCell (a := ⟨kb, q, none⟩) (.inl rfl) _
  obtain ⟨k1, k2, k3, k4⟩ := h.keep ht hf (fun b t N F hr h1 _ e => row_ne hr h.row h1 e)
  refine ⟨⟨(h.row.set q v).congr (fun p hp => (hc p hp).symm), Nat.lt_of_lt_of_le h.tlt hf.size, Nat.lt_of_lt_of_le h.plt hf.size, k1, k2, ?_, by rw [hj]; exact k3⟩, ⟨k4.tt, k4.pt, k4.st, by rw [hj]; exact k4.dt⟩, hf.mono (fun b e => .inl e)⟩
  rw [hj]
  refine own_same h.jobs (fun b hb => hf.block b (h.jobs.lt b hb).2 (fun e => ?_))
  obtain ⟨_, _, hr⟩ := own_rowE h.jobs hb
  exact row_ne hr h.row (by decide) e

/-- One number of a job is written. -/
theorem RKAt.setJ {w : World} {B kb tb tc pb pc n : Nat} {T : TD} {Z : Nat → Int} {k : RK} {g cap : Nat} {dv : Nat → Option Addr × Nat} (h : RKAt w B kb tb tc pb pc n T Z k (.slice (some ⟨g, 0, none⟩) k.jobs.length cap) dv) (ht : RKT w tb pb n T k dv) {i : Nat} {x x' : RJ} (hx : k.jobs[i]? = some x) (c : Nat) (v : Value) (hc : c < 7) (hd : x'.dem = x.dem) (he : rjc x' (dv i) = (rjc x (dv i)).set c v) :
    RKAt (w.setCell ⟨g, i * 7 + c, none⟩ v) B kb tb tc pb pc n T Z { k with jobs := k.jobs.set i x' } (.slice (some ⟨g, 0, none⟩) k.jobs.length cap) dv ∧ RKT (w.setCell ⟨g, i * 7 + c, none⟩ v) tb pb n T { k with jobs := k.jobs.set i x' } dv ∧ Fr (fun b => b = kb ∨ (Value.slice (some ⟨g, 0, none⟩) k.jobs.length cap).ownBlock = some b) w (w.setCell ⟨g, i * 7 + c, none⟩ v) := by
  have hf : Fr (fun b => b = g) w (w.setCell ⟨g, i * 7 + c, none⟩ v) := (Fr.refl (fun b => b = g) w).setCell (a := ⟨g, i * 7 + c, none⟩) (.inl rfl) _
  obtain ⟨_, _, hr⟩ := own_rowE h.jobs (b := g) rfl
  obtain ⟨k1, k2, k3, k4⟩ := h.keep ht hf (fun b t N F hb _ h2 e => row_ne hb hr h2 e)
  have hst := (h.jobs.stored (i * 7 + c) v).1
  have e0 : jobCs dv 0 (k.jobs.set i x') = (jobCs dv 0 k.jobs).set (i * 7 + c) v := (jobCs_set dv 0 k.jobs i x x' c v hx hc (by rw [Nat.zero_add]; exact he)).symm
  have hdem : ∀ (i' : Nat) (y : RJ), (k.jobs.set i x')[i']? = some y → ∃ y0, k.jobs[i']? = some y0 ∧ y.dem = y0.dem := by
    intro i' y hy
    rcases set_get hx hy with ⟨rfl, rfl⟩ | ⟨_, g2⟩
    · exact ⟨x, hx, hd⟩
    · exact ⟨y, g2, rfl⟩
  refine ⟨⟨?_, Nat.lt_of_lt_of_le h.tlt hf.size, Nat.lt_of_lt_of_le h.plt hf.size, k1, k2, ?_, fun i' y hy => ?_⟩, ⟨k4.tt, k4.pt, k4.st, fun i' y hy a ha => ?_⟩, hf.mono (fun b e => .inr (by rw [e]; rfl))⟩
  · exact h.row.setOther (fun e => row_ne h.row hr (by decide) e) _
  · show World.ownsRow _ B 148 7 _ (k.jobs.set i x').length (jobCs dv 0 (k.jobs.set i x'))
    rw [List.length_set, e0]
    exact hst
  · obtain ⟨y0, hy0, e⟩ := hdem i' y hy
    rw [e]
    exact k3 i' y0 hy0
  · obtain ⟨y0, hy0, _⟩ := hdem i' y hy
    exact k4.dt i' y0 hy0 a ha

/-- The head of a task, as the document's kernel has it. -/
theorem RR.head {S : Sy} {m : Mc} {k : RK} (hs : SyOk S) (ho : Ok S m) (hl : LkInv S m) (h : RR S m k) {t : Nat} {j : Jb} {r : List Jb} (ht : t < S.n) (hq : m.q t = j :: r) : ∃ (i : Nat) (x : RJ) (hd : List Int), j.ord = (i : Int) ∧ k.jobs[i]? = some x ∧ JR S t j x ∧ (∀ (i' : Nat) (y : RJ), i' < i → k.jobs[i']? = some y → ¬ (y.task = t ∧ y.done < 0)) ∧ stTo (S.K t) (S.N t) j.p = some hd ∧ actF S.C (S.Z t) hd = actP S m t ∧ (0 < hd.length ↔ 0 < hasH S m t) ∧ 0 ≤ x.used ∧ x.used ≤ 1600 ∧ (∀ q, q < x.dem.length → 1 ≤ x.dem.getD q 0 ∧ x.dem.getD q 0 ≤ 100) ∧ x.dem.length ≤ 16 := by
  obtain ⟨i, x, hi, hx, hj, hfirst⟩ := h.first ht hq
  have hjo := (ho.job t ht j (by rw [hq]; simp)).1
  have hlt := hjo.lt
  obtain ⟨hd, hhd⟩ := st_some (hs.prog t ht) (e := j.p) (by omega)
  obtain ⟨a1, a2⟩ := act_held hs ho hl ht hq hhd
  have hleft := hj.ur.left hjo
  have hlr := hjo.left_range (ho.len t ht).2
  obtain ⟨hl1, hl16, _, hpi⟩ := progB_inv (hs.prog t ht)
  have hcm : cmpTo (S.K t) (S.L t) = x.dem.length := hj.fits.2
  have hcl := cmpTo_le (S.K t) (S.L t)
  have hdr : ∀ q, q < x.dem.length → 1 ≤ x.dem.getD q 0 ∧ x.dem.getD q 0 ≤ 100 := by
    intro q hq'
    have hex : ∀ L, q < cmpTo (S.K t) L → L ≤ S.L t → ∃ p, p < L ∧ S.K t p = 1 ∧ cmpTo (S.K t) p = q := by
      intro L
      induction L with
      | zero => intro hq0 _; exact absurd hq0 (by show ¬ q < 0; omega)
      | succ L ih =>
        intro hqL hL
        by_cases c : S.K t L = 1
        · have e : cmpTo (S.K t) (L + 1) = cmpTo (S.K t) L + 1 := if_pos c
          by_cases c2 : q < cmpTo (S.K t) L
          · obtain ⟨p, p1, p2, p3⟩ := ih c2 (by omega)
            exact ⟨p, by omega, p2, p3⟩
          · exact ⟨L, by omega, c, by omega⟩
        · have e : cmpTo (S.K t) (L + 1) = cmpTo (S.K t) L := if_neg c
          obtain ⟨p, p1, p2, p3⟩ := ih (by omega) (by omega)
          exact ⟨p, by omega, p2, p3⟩
    obtain ⟨p, p1, p2, p3⟩ := hex (S.L t) (by omega) (Nat.le_refl _)
    have hf := hj.fits.1 p p1 p2
    rw [p3] at hf
    have hN : S.N t p ≤ 100 := by
      rcases hpi.steps p p1 with g | g | g
      · exact g.2.2
      · omega
      · omega
    have h1 : 1 ≤ x.dem.getD q 0 := hf.2.1
    have h2 : x.dem.getD q 0 ≤ S.N t p := hf.2.2
    exact ⟨h1, by omega⟩
  have hsum := sumL_range hdr x.dem.length (Nat.le_refl _)
  rw [List.take_length] at hsum
  rw [hj.total] at hleft
  have hu0 : 0 ≤ x.used := by
    rcases hj.ur.pl with ⟨g, _⟩ | ⟨g, _⟩ | ⟨g, _⟩ <;> omega
  exact ⟨i, x, hd, hi, hx, hj, hfirst, hhd, a1, a2, hu0, by omega, hdr, by omega⟩

end Go.Proofs.YtdabcflpcklfiaaGreat

/- The document's kernel, walked: may these be the demands of a program? -/
namespace Go.Proofs.YtdabcflpcklfiaaGreat
open Go.RowKit Cad

set_option maxRecDepth 100000 in
set_option maxHeartbeats 2000000 in
theorem rfits_any {w : World} {b off L cap d dc : Nat} {ao : Option Addr} {K N R : Nat → Int} (hL : L ≤ 16) (hb : b < w.heap.size) (hS : StepsAt w b off L K N) (hd : d ≤ 9223372036854775806) (hR : 1 ≤ d → ∃ rb rf, ao = some ⟨rb, rf, none⟩ ∧ rb < w.heap.size ∧ IntsAt w rb rf d R) :
    Calls Tryz.prog 74 #[.slice (some ⟨b, off, none⟩) L cap, .slice ao d dc] w fun e w' => e = .returned (.bool (fitsB K N L R d)) ∧ Below w.heap.size w w' := by
  have HS : Hid (StepsAt w b off L K N) := hS
  have HR : Hid (1 ≤ d → ∃ rb rf, ao = some ⟨rb, rf, none⟩ ∧ rb < w.heap.size ∧ IntsAt w rb rf d R) := hR
  clear hS hR
  go_enter Tryz.func74, Tryz.ntmps74
  go_wp2_with fail
  go_loopw [5, 6] (fun nv iv wr => ∃ i : Nat, i ≤ L ∧ nv = .int .i64 (cmpTo K i : Nat) ∧ iv = .int .i64 i ∧ (∀ q, q < i → K q = 1 → cmpTo K q < d ∧ 1 ≤ R (cmpTo K q) ∧ R (cmpTo K q) ≤ N q) ∧ Below w.heap.size w wr) (fun _ iv _ => L - (intOf iv).toNat)
  case atStart => exact ⟨0, Nat.zero_le _, rfl, rfl, fun q hq => by omega, Below.refl _ _⟩
  case round =>
    obtain ⟨i, hi, rfl, rfl, hall, hbel⟩ := hrel
    have HB : Hid (Below w.heap.size w wr) := hbel
    have HA : Hid (∀ q, q < i → K q = 1 → cmpTo K q < d ∧ 1 ≤ R (cmpTo K q) ∧ R (cmpTo K q) ≤ N q) := hall
    have hcl := cmpTo_le K i
    have hsz := hbel.size
    by_cases hiL : i < L
    · have hk : wr.cell? ⟨b, off + i * 2, none⟩ = some (.int .i64 (K i)) := (hbel.cell (p := ⟨b, off + i * 2, none⟩) hb).trans (HS.out i hiL).1
      have hn : wr.cell? ⟨b, off + i * 2 + 1, none⟩ = some (.int .i64 (N i)) := (hbel.cell (p := ⟨b, off + i * 2 + 1, none⟩) hb).trans (HS.out i hiL).2
      have hbw : b < wr.heap.size := by omega
      by_cases k1 : K i = 1
      · have HC : Hid (cmpTo K (i + 1) = cmpTo K i + 1) := if_pos k1
        have HBAD : Hid (¬ (cmpTo K i < d ∧ 1 ≤ R (cmpTo K i) ∧ R (cmpTo K i) ≤ N i) → fitsB K N L R d = false) := by
          intro hc
          rw [fitsB_false]
          intro hF
          exact hc (hF.1 i hiL k1)
        have HGD : Hid ((cmpTo K i < d ∧ 1 ≤ R (cmpTo K i) ∧ R (cmpTo K i) ≤ N i) → ∀ q, q < i + 1 → K q = 1 → cmpTo K q < d ∧ 1 ≤ R (cmpTo K q) ∧ R (cmpTo K q) ≤ N q) := by
          intro hc q hq h1
          by_cases c : q < i
          · exact HA.out q c h1
          · have e : q = i := by omega
            subst e
            exact hc
        rw [k1] at hk
        clear hall hbel
        by_cases hnd : cmpTo K i < d
        · obtain ⟨rb, rf, rfl, hrl, hri⟩ := HR.out (by omega)
          have hr : wr.cell? ⟨rb, rf + cmpTo K i, none⟩ = some (.int .i64 (R (cmpTo K i))) := (HB.out.cell (p := ⟨rb, rf + cmpTo K i, none⟩) hrl).trans (hri _ hnd)
          have hrw : rb < wr.heap.size := by omega
          have b1 : decide (d ≤ cmpTo K i) = false := decide_eq_false (by omega)
          clear hri
          by_cases h1 : R (cmpTo K i) < 1
          · have b2 : decide (R (cmpTo K i) < 1) = true := decide_eq_true h1
            have HE : Hid (fitsB K N L R d = false) := HBAD.out (fun c => by omega)
            clear h1 k1
            generalize R (cmpTo K i) = rv at *
            generalize cmpTo K i = ck at *
            go_wp2_with fail
            go_quiet (fail)
            go_wp2
            go_ret
            exact ⟨by rw [HE.out]; rfl, below_drewM HB.out _⟩
          · have b2 : decide (R (cmpTo K i) < 1) = false := decide_eq_false h1
            by_cases h2 : N i < R (cmpTo K i)
            · have b3 : decide (N i < R (cmpTo K i)) = true := decide_eq_true h2
              have HE : Hid (fitsB K N L R d = false) := HBAD.out (fun c => by omega)
              clear h1 h2 k1
              generalize R (cmpTo K i) = rv at *
              generalize cmpTo K i = ck at *
              generalize N i = nn at *
              go_wp2_with fail
              go_quiet (fail)
              go_wp2
              go_ret
              exact ⟨by rw [HE.out]; rfl, below_drewM HB.out _⟩
            · have b3 : decide (N i < R (cmpTo K i)) = false := decide_eq_false h2
              have HG := HGD.out ⟨hnd, by omega, by omega⟩
              have HG2 : Hid _ := HG
              clear h1 h2 k1 HG
              generalize R (cmpTo K i) = rv at *
              generalize cmpTo K i = ck at *
              generalize N i = nn at *
              go_wp2_with fail
              go_quiet (fail)
              go_wp2
              go_roundw
              case rel => exact ⟨i + 1, by omega, by rw [HC.out]; go_num, by go_num, HG2.out, below_drewM HB.out _⟩
              case measure => simp [intOf]; omega
        · have b1 : decide (d ≤ cmpTo K i) = true := decide_eq_true (by omega)
          have HE : Hid (fitsB K N L R d = false) := HBAD.out (fun c => hnd c.1)
          clear hnd k1
          generalize cmpTo K i = ck at *
          go_wp2_with fail
          go_quiet (fail)
          go_wp2
          go_ret
          exact ⟨by rw [HE.out]; rfl, below_drewM HB.out _⟩
      · have HC : Hid (cmpTo K (i + 1) = cmpTo K i) := if_neg k1
        have HG2 : Hid (∀ q, q < i + 1 → K q = 1 → cmpTo K q < d ∧ 1 ≤ R (cmpTo K q) ∧ R (cmpTo K q) ≤ N q) := by
          intro q hq h1
          by_cases c : q < i
          · exact HA.out q c h1
          · have e : q = i := by omega
            subst e
            exact absurd h1 k1
        have bk : (K i == 1) = false := by rw [beq_eq_false_iff_ne]; exact k1
        clear k1 hall hbel
        generalize cmpTo K i = ck at *
        generalize K i = ki at *
        go_wp2
        go_roundw
        case rel => exact ⟨i + 1, by omega, by rw [HC.out], by go_num, HG2.out, HB.out⟩
        case measure => simp [intOf]; omega
    · obtain rfl : i = L := by omega
      have HE : Hid (fitsB K N i R d = ((cmpTo K i : Int) == (d : Int))) := by
        unfold Hid
        by_cases c : cmpTo K i = d
        · have h1 : ((cmpTo K i : Int) == (d : Int)) = true := by rw [beq_iff_eq]; omega
          rw [h1, fitsB_true]
          exact ⟨HA.out, c⟩
        · have h1 : ((cmpTo K i : Int) == (d : Int)) = false := by rw [beq_eq_false_iff_ne]; omega
          rw [h1, fitsB_false]
          intro hF
          exact c hF.2
      clear hall hbel
      generalize cmpTo K i = ck at *
      go_wp2
      go_ret
      exact ⟨by rw [HE.out]; rfl, HB.out⟩

end Go.Proofs.YtdabcflpcklfiaaGreat

/- The document's kernel in memory: a job is added. -/
namespace Go.Proofs.YtdabcflpcklfiaaGreat
open Go.RowKit Cad

theorem Fr.of_grown {w w' : World} {row : Option Nat} (h : w.grownBy w' row) : Fr (fun b => row = some b) w w' := ⟨h.os, h.tape, h.output, h.size, fun b hb hn => h.block b hb (fun e => hn e.symm)⟩

theorem RKAt.addJ {w w5 : World} {B kb tb tc pb pc n : Nat} {T : TD} {Z : Nat → Int} {k : RK} {jv v5 : Value} {dv : Nat → Option Addr × Nat} (h : RKAt w B kb tb tc pb pc n T Z k jv dv) (ht : RKT w tb pb n T k dv) {x : RJ} {d : Option Addr × Nat} (hd : DemAt w d.1 x.dem) (hdt : ∀ a, d.1 = some a → ∃ sz f, w.rowIs a.block 3 sz f)
    (hown : w5.ownsRow B 148 7 v5 (k.jobs.length + 1) (jobCs dv 0 k.jobs ++ rjc x d)) (hg : w.grownBy w5 jv.ownBlock) :
    RKAt (w5.setCell ⟨kb, 2, none⟩ v5) B kb tb tc pb pc n T Z { k with jobs := k.jobs ++ [x] } v5 (fun i => if i = k.jobs.length then d else dv i) ∧ RKT (w5.setCell ⟨kb, 2, none⟩ v5) tb pb n T { k with jobs := k.jobs ++ [x] } (fun i => if i = k.jobs.length then d else dv i) ∧ Fr (fun b => b = kb ∨ jv.ownBlock = some b) w (w5.setCell ⟨kb, 2, none⟩ v5) := by
  have hf5 : Fr (fun b => jv.ownBlock = some b) w w5 := Fr.of_grown hg
  have hf : Fr (fun b => b = kb ∨ jv.ownBlock = some b) w (w5.setCell ⟨kb, 2, none⟩ v5) := (hf5.mono (fun b e => .inr e)).setCell (a := ⟨kb, 2, none⟩) (.inl (.inl rfl)) _
  have hkj : jv.ownBlock ≠ some kb := fun e => by
    obtain ⟨_, _, hr⟩ := own_rowE h.jobs e
    exact row_ne hr h.row (by decide) rfl
  have hX : ∀ b t N F, w.rowIs b t N F → t ≠ 116 → t ≠ 148 → ¬ (b = kb ∨ jv.ownBlock = some b) := by
    rintro b t N F hr h1 h2 (e | e)
    · exact row_ne hr h.row h1 e
    · obtain ⟨_, _, hr2⟩ := own_rowE h.jobs e
      exact row_ne hr hr2 h2 rfl
  obtain ⟨k1, k2, k3, k4⟩ := h.keep ht hf hX
  have hrow5 : w5.rowIs kb 116 6 _ := h.row.of_block (hf5.block kb h.row.lt hkj)
  have hdn : DemAt (w5.setCell ⟨kb, 2, none⟩ v5) d.1 x.dem := fun h1 => by
    obtain ⟨rb, rf, e, hl, hi⟩ := hd h1
    obtain ⟨_, _, h3⟩ := hdt _ e
    have b3 := hf.block rb hl (hX _ _ _ _ h3 (by decide) (by decide))
    exact ⟨rb, rf, e, Nat.lt_of_lt_of_le hl hf.size, fun q hq => (cell_same b3).trans (hi q hq)⟩
  have hold : ∀ (i : Nat) (y : RJ), k.jobs[i]? = some y → (if i = k.jobs.length then d else dv i) = dv i := fun i y hy => if_neg (by have := (List.getElem?_eq_some_iff.1 hy).1; omega)
  refine ⟨⟨(hrow5.set 2 v5).congr (fun p hp => ?_), Nat.lt_of_lt_of_le h.tlt hf.size, Nat.lt_of_lt_of_le h.plt hf.size, k1, k2, ?_, fun i y hy => ?_⟩, ⟨k4.tt, k4.pt, k4.st, fun i y hy a ha => ?_⟩, hf⟩
  · match p, hp with
    | 0, _ => rfl
    | 1, _ => rfl
    | 2, _ => rfl
    | 3, _ => rfl
    | 4, _ => rfl
    | 5, _ => rfl
  · have e1 : jobCs (fun i => if i = k.jobs.length then d else dv i) 0 (k.jobs ++ [x]) = jobCs dv 0 k.jobs ++ rjc x d := by
      rw [jobCs_snoc]
      rw [jobCs_congr (dv' := dv) 0 k.jobs (fun i hi => if_neg (by omega))]
      rw [if_pos (by omega)]
    show World.ownsRow _ B 148 7 v5 (k.jobs ++ [x]).length (jobCs _ 0 (k.jobs ++ [x]))
    rw [e1, List.length_append, List.length_singleton]
    exact own_setOther (i := 2) hown hrow5 (by decide) v5
  · rcases snoc_get hy with ⟨rfl, rfl⟩ | ⟨_, g⟩
    · show DemAt _ (if _ then d else dv _).1 _
      rw [if_pos rfl]
      exact hdn
    · show DemAt _ (if _ then d else dv _).1 _
      rw [hold i y g]
      exact k3 i y g
  · rcases snoc_get hy with ⟨rfl, rfl⟩ | ⟨_, g⟩
    · have ha' : d.1 = some a := by
        have : (if k.jobs.length = k.jobs.length then d else dv k.jobs.length).1 = some a := ha
        rw [if_pos rfl] at this
        exact this
      obtain ⟨_, _, h3⟩ := hdt a ha'
      exact ⟨_, _, h3.of_block (hf.block _ h3.lt (hX _ _ _ _ h3 (by decide) (by decide)))⟩
    · have ha' : (dv i).1 = some a := by
        have : (if i = k.jobs.length then d else dv i).1 = some a := ha
        rw [hold i y g] at this
        exact this
      exact k4.dt i y g a ha'

/-- The last arrival and the number of open ones, as the walk sees them. -/
theorem last_step {l : List RJ} {i : Nat} {x : RJ} (t : Nat) (hx : l[i]? = some x) (h0 : 0 ≤ x.arr) : lastTo (l.take (i + 1)) t = if x.task = t then x.arr else lastTo (l.take i) t := by
  have e : l.take (i + 1) = l.take i ++ [x] := by rw [List.take_add_one, hx]; rfl
  unfold lastTo
  rw [e, List.map_append, List.map_singleton, lastP_snoc _ _ _ h0]

theorem cnt_step {l : List RJ} {i : Nat} {x : RJ} (t : Nat) (hx : l[i]? = some x) : cntO t (l.take (i + 1)) = cntO t (l.take i) + (if x.task = t ∧ x.done < 0 then 1 else 0) := by
  have e : l.take (i + 1) = l.take i ++ [x] := by rw [List.take_add_one, hx]; rfl
  rw [e, cntO_snoc]
  unfold opB
  by_cases c : x.task = t ∧ x.done < 0
  · rw [if_pos c, if_pos (decide_eq_true c)]
  · rw [if_neg c, if_neg (by rw [decide_eq_false c]; decide)]

theorem cntO_ge (t : Nat) : ∀ l : List RJ, 0 ≤ cntO t l ∧ cntO t l ≤ l.length
  | [] => ⟨Int.le_refl _, Int.le_refl _⟩
  | x :: l => by
    have ih := cntO_ge t l
    show 0 ≤ (if opB t x = true then 1 else 0) + cntO t l ∧ (if opB t x = true then 1 else 0) + cntO t l ≤ ((l.length + 1 : Nat) : Int)
    split <;> omega

end Go.Proofs.YtdabcflpcklfiaaGreat
