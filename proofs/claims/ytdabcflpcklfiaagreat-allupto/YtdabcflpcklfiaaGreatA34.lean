import Derived.Test.YtdabcflpcklfiaaGreatA33
import Derived.Laws.OwnMore
/- The document's kernel in memory. -/
namespace Go.Proofs.YtdabcflpcklfiaaGreat
open Go.RowKit Cad

/-- The cells of one job. -/
def rjc (x : RJ) (d : Option Addr × Nat) : List Value := [.int .i64 (x.task : Int), .int .i64 x.arr, .int .i64 x.rel, .slice d.1 x.dem.length d.2, .int .i64 x.used, .int .i64 x.done, .int .i64 x.ended]

def jobCs (dv : Nat → Option Addr × Nat) : Nat → List RJ → List Value
  | _, [] => []
  | n, x :: l => rjc x (dv n) ++ jobCs dv (n + 1) l

theorem rjc_len (x : RJ) (d : Option Addr × Nat) : (rjc x d).length = 7 := rfl

theorem jobCs_get (dv : Nat → Option Addr × Nat) : ∀ (n : Nat) (l : List RJ) (i : Nat) (x : RJ) (c : Nat), l[i]? = some x → c < 7 → (jobCs dv n l)[i * 7 + c]? = (rjc x (dv (n + i)))[c]?
  | _, [], i, x, c, h, _ => by simp at h
  | n, y :: l, 0, x, c, h, hc => by
    simp at h
    subst h
    show (rjc y (dv n) ++ jobCs dv (n + 1) l)[0 * 7 + c]? = _
    rw [List.getElem?_append_left (by rw [rjc_len]; omega)]
    simp
  | n, y :: l, i + 1, x, c, h, hc => by
    show (rjc y (dv n) ++ jobCs dv (n + 1) l)[(i + 1) * 7 + c]? = _
    rw [List.getElem?_append_right (by rw [rjc_len]; omega), rjc_len, show (i + 1) * 7 + c - 7 = i * 7 + c by omega]
    have := jobCs_get dv (n + 1) l i x c (by simpa using h) hc
    rw [this, show n + 1 + i = n + (i + 1) by omega]

theorem jobCs_snoc (dv : Nat → Option Addr × Nat) (x : RJ) : ∀ (n : Nat) (l : List RJ), jobCs dv n (l ++ [x]) = jobCs dv n l ++ rjc x (dv (n + l.length))
  | n, [] => by
    show rjc x (dv n) ++ [] = [] ++ rjc x (dv (n + 0))
    simp
  | n, y :: l => by
    show rjc y (dv n) ++ jobCs dv (n + 1) (l ++ [x]) = rjc y (dv n) ++ jobCs dv (n + 1) l ++ rjc x (dv (n + (l.length + 1)))
    rw [jobCs_snoc dv x (n + 1) l, List.append_assoc, show n + 1 + l.length = n + (l.length + 1) by omega]

theorem jobCs_congr {dv dv' : Nat → Option Addr × Nat} : ∀ (n : Nat) (l : List RJ), (∀ i, i < l.length → dv (n + i) = dv' (n + i)) → jobCs dv n l = jobCs dv' n l
  | _, [], _ => rfl
  | n, x :: l, h => by
    show rjc x (dv n) ++ jobCs dv (n + 1) l = rjc x (dv' n) ++ jobCs dv' (n + 1) l
    have h0 := h 0 (by simp)
    rw [Nat.add_zero] at h0
    have h1 : jobCs dv (n + 1) l = jobCs dv' (n + 1) l := jobCs_congr (n + 1) l (fun i hi => by
      have g := h (i + 1) (by simpa using hi)
      have e : n + (i + 1) = n + 1 + i := by omega
      rw [e] at g
      exact g)
    rw [h0, h1]

theorem jobCs_set (dv : Nat → Option Addr × Nat) : ∀ (n : Nat) (l : List RJ) (i : Nat) (x x' : RJ) (c : Nat) (v : Value), l[i]? = some x → c < 7 → rjc x' (dv (n + i)) = (rjc x (dv (n + i))).set c v → (jobCs dv n l).set (i * 7 + c) v = jobCs dv n (l.set i x')
  | _, [], i, x, x', c, v, h, _, _ => by simp at h
  | n, y :: l, 0, x, x', c, v, h, hc, e => by
    simp at h
    subst h
    show (rjc y (dv n) ++ jobCs dv (n + 1) l).set (0 * 7 + c) v = rjc x' (dv n) ++ jobCs dv (n + 1) l
    rw [Nat.add_zero] at e
    rw [e, List.set_append_left _ _ (by rw [rjc_len]; omega)]
    simp
  | n, y :: l, i + 1, x, x', c, v, h, hc, e => by
    show (rjc y (dv n) ++ jobCs dv (n + 1) l).set ((i + 1) * 7 + c) v = rjc y (dv n) ++ jobCs dv (n + 1) (l.set i x')
    rw [List.set_append_right _ _ (by rw [rjc_len]; omega), rjc_len, show (i + 1) * 7 + c - 7 = i * 7 + c by omega]
    rw [jobCs_set dv (n + 1) l i x x' c v (by simpa using h) hc (by rw [show n + 1 + i = n + (i + 1) by omega]; exact e)]

def rkcell (tv pv jv : Value) (k : RK) (q : Nat) : Value :=
  if q = 0 then tv else if q = 1 then pv else if q = 2 then jv else if q = 3 then .int .i64 k.now else if q = 4 then .int .i64 k.idle else .int .i64 k.ended

/-- The document's kernel in memory, all of it at or above B. -/
structure RKAt (w : World) (B kb tb tc pb pc n : Nat) (T : TD) (Z : Nat → Int) (k : RK) (jv : Value) (dv : Nat → Option Addr × Nat) : Prop where
  row : w.rowIs kb 116 6 (rkcell (.slice (some ⟨tb, 0, none⟩) n tc) (.slice (some ⟨pb, 0, none⟩) n pc) jv k)
  tlt : tb < w.heap.size
  plt : pb < w.heap.size
  tasks : TasksAt w tb 0 n T
  prio : IntsAt w pb 0 n Z
  jobs : w.ownsRow B 148 7 jv k.jobs.length (jobCs dv 0 k.jobs)
  dems : ∀ (i : Nat) (x : RJ), k.jobs[i]? = some x → DemAt w (dv i).1 x.dem

theorem RKAt.rc {w : World} {B kb tb tc pb pc n : Nat} {T : TD} {Z : Nat → Int} {k : RK} {jv : Value} {dv : Nat → Option Addr × Nat} (h : RKAt w B kb tb tc pb pc n T Z k jv dv) : w.cell? ⟨kb, 0, none⟩ = some (.slice (some ⟨tb, 0, none⟩) n tc) ∧ w.cell? ⟨kb, 1, none⟩ = some (.slice (some ⟨pb, 0, none⟩) n pc) ∧ w.cell? ⟨kb, 2, none⟩ = some jv ∧ w.cell? ⟨kb, 3, none⟩ = some (.int .i64 k.now) ∧ w.cell? ⟨kb, 4, none⟩ = some (.int .i64 k.idle) ∧ w.cell? ⟨kb, 5, none⟩ = some (.int .i64 k.ended) :=
  ⟨h.row.cell (by omega), h.row.cell (by omega), h.row.cell (by omega), h.row.cell (by omega), h.row.cell (by omega), h.row.cell (by omega)⟩

theorem RKAt.shape {w : World} {B kb tb tc pb pc n : Nat} {T : TD} {Z : Nat → Int} {k : RK} {jv : Value} {dv : Nat → Option Addr × Nat} (h : RKAt w B kb tb tc pb pc n T Z k jv dv) : ∃ ao cap, jv = .slice ao k.jobs.length cap ∧ k.jobs.length ≤ cap := by
  rcases h.jobs.2 with ⟨hv, h0⟩ | ⟨g, cap, cur, hv, _, _, hle, _⟩
  · exact ⟨none, 0, by rw [hv, h0], by omega⟩
  · exact ⟨some ⟨g, 0, none⟩, cap, hv, hle⟩

/-- One job's cells. -/
theorem RKAt.job {w : World} {B kb tb tc pb pc n : Nat} {T : TD} {Z : Nat → Int} {k : RK} {jv : Value} {dv : Nat → Option Addr × Nat} (h : RKAt w B kb tb tc pb pc n T Z k jv dv) {i : Nat} {x : RJ} (hx : k.jobs[i]? = some x) : ∃ g cap, jv = .slice (some ⟨g, 0, none⟩) k.jobs.length cap ∧ B ≤ g ∧ g < w.heap.size ∧ k.jobs.length ≤ cap ∧ (∀ c u, (rjc x (dv i))[c]? = some u → w.cell? ⟨g, i * 7 + c, none⟩ = some u) ∧ ∀ j, w.frozen? ⟨g, j, none⟩ = false := by
  have hi := (List.getElem?_eq_some_iff.1 hx).1
  rcases h.jobs.2 with ⟨_, h0⟩ | ⟨g, cap, cur, hv, hB, hg, hle, _⟩
  · omega
  · have ho := h.jobs
    rw [hv] at ho
    refine ⟨g, cap, hv, hB, (Array.getElem?_eq_some_iff.1 hg).1, hle, fun c u hu => ?_, fun j => ho.frozenAt j⟩
    have hc : c < 7 := (List.getElem?_eq_some_iff.1 hu).1
    rw [ho.cellAt (i * 7 + c) (by omega), jobCs_get dv 0 k.jobs i x c hx hc, Nat.zero_add]
    exact hu

set_option maxRecDepth 100000 in
set_option maxHeartbeats 1000000 in
theorem rfirst_any {w : World} {B kb tb tc pb pc n : Nat} {T : TD} {Z : Nat → Int} {k : RK} {jv : Value} {dv : Nat → Option Addr × Nat} (h : RKAt w B kb tb tc pb pc n T Z k jv dv) (hl : k.jobs.length ≤ 1000000000000000000) {t : Nat} (_ht : t < 100)
    {r : Int} (hr : (∃ (i : Nat) (x : RJ), r = (i : Int) ∧ k.jobs[i]? = some x ∧ x.task = t ∧ x.done < 0 ∧ ∀ (i' : Nat) (y : RJ), i' < i → k.jobs[i']? = some y → ¬ (y.task = t ∧ y.done < 0)) ∨ (r = -1 ∧ ∀ (i : Nat) (y : RJ), k.jobs[i]? = some y → ¬ (y.task = t ∧ y.done < 0))) :
    Calls Tryz.prog 103 #[.pointer (some ⟨kb, 0, none⟩), .int .i64 t] w fun e w' => e = .returned (.int .i64 r) ∧ Below w.heap.size w w' := by
  have HR : Hid _ := h
  have HQ : Hid _ := hr
  have hkl := h.row.lt
  clear h hr
  go_enter Tryz.func103, Tryz.ntmps103
  go_wp2
  go_loopw [5] (fun iv wr => ∃ i : Nat, i ≤ k.jobs.length ∧ iv = .int .i64 i ∧ (∀ (i' : Nat) (y : RJ), i' < i → k.jobs[i']? = some y → ¬ (y.task = t ∧ y.done < 0)) ∧ Below w.heap.size w wr) (fun iv _ => k.jobs.length - (intOf iv).toNat)
  case atStart => exact ⟨0, Nat.zero_le _, rfl, fun i' y h => by omega, Below.refl _ _⟩
  case round =>
    obtain ⟨i, hi, rfl, hno, hbel⟩ := hrel
    have HB : Hid (Below w.heap.size w wr) := hbel
    have HNO : Hid (∀ (i' : Nat) (y : RJ), i' < i → k.jobs[i']? = some y → ¬ (y.task = t ∧ y.done < 0)) := hno
    have k2 : wr.cell? ⟨kb, 2, none⟩ = some jv := (hbel.cell (p := ⟨kb, 2, none⟩) hkl).trans HR.out.rc.2.2.1
    have hsz := hbel.size
    by_cases hil : i < k.jobs.length
    · obtain ⟨x, hx⟩ : ∃ x, k.jobs[i]? = some x := ⟨_, List.getElem?_eq_getElem hil⟩
      obtain ⟨g, cap, rfl, _, hgl, hcap, hc, _⟩ := HR.out.job hx
      have c0 : wr.cell? ⟨g, i * 7, none⟩ = some (.int .i64 (x.task : Int)) := (hbel.cell (p := ⟨g, i * 7, none⟩) hgl).trans (hc 0 _ rfl)
      have c5 : wr.cell? ⟨g, i * 7 + 5, none⟩ = some (.int .i64 x.done) := (hbel.cell (p := ⟨g, i * 7 + 5, none⟩) hgl).trans (hc 5 _ rfl)
      have HX : Hid (k.jobs[i]? = some x) := hx
      have hglr : g < wr.heap.size := by omega
      clear hc hbel hno hx
      by_cases hgo : x.task = t ∧ x.done < 0
      · have b1 : ((x.task : Int) == (t : Int)) = true := by rw [beq_iff_eq]; omega
        have b2 : decide (x.done < 0) = true := decide_eq_true hgo.2
        have HE : Hid (r = (i : Int)) := by
          rcases HQ.out with ⟨i', x', e1, e2, e3, e4, e5⟩ | ⟨_, e2⟩
          · by_cases c : i' < i
            · exact absurd ⟨e3, e4⟩ (HNO.out i' x' c e2)
            · by_cases c2 : i < i'
              · exact absurd hgo (e5 i x c2 HX.out)
              · unfold Hid; omega
          · exact absurd hgo (e2 i x HX.out)
        clear hgo
        generalize x.done = xd at *
        generalize x.task = xt at *
        generalize k.jobs.length = kl at *
        go_wp2
        go_ret
        exact ⟨by rw [HE.out]; rfl, HB.out⟩
      · have HN2 : Hid (∀ (i' : Nat) (y : RJ), i' < i + 1 → k.jobs[i']? = some y → ¬ (y.task = t ∧ y.done < 0)) := by
          intro i' y hlt hy
          by_cases c : i' < i
          · exact HNO.out i' y c hy
          · have e : i' = i := by omega
            subst e
            rw [HX.out] at hy
            cases hy
            exact hgo
        by_cases htk : x.task = t
        · have b1 : ((x.task : Int) == (t : Int)) = true := by rw [beq_iff_eq]; omega
          have b2 : decide (x.done < 0) = false := decide_eq_false (fun c => hgo ⟨htk, c⟩)
          clear hgo htk
          generalize x.done = xd at *
          generalize x.task = xt at *
          go_wp2
          go_roundw
          case rel => exact ⟨i + 1, by omega, by go_num, HN2.out, HB.out⟩
          case measure => simp [intOf]; omega
        · have b1 : ((x.task : Int) == (t : Int)) = false := by rw [beq_eq_false_iff_ne]; omega
          clear hgo htk
          generalize x.done = xd at *
          generalize x.task = xt at *
          go_wp2
          go_roundw
          case rel => exact ⟨i + 1, by omega, by go_num, HN2.out, HB.out⟩
          case measure => simp [intOf]; omega
    · obtain rfl : i = k.jobs.length := by omega
      obtain ⟨ao, cap, rfl, hcap⟩ := HR.out.shape
      have HE : Hid (r = -1) := by
        rcases HQ.out with ⟨i', x', e1, e2, e3, e4, e5⟩ | ⟨e1, _⟩
        · exact absurd ⟨e3, e4⟩ (HNO.out i' x' (List.getElem?_eq_some_iff.1 e2).1 e2)
        · exact e1
      clear hno hbel
      generalize k.jobs.length = kl at *
      go_wp2
      go_ret
      exact ⟨by rw [HE.out]; rfl, HB.out⟩

end Go.Proofs.YtdabcflpcklfiaaGreat
