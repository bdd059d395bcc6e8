import Derived.Test.YtdabcflpcklfiaaGreatA20
import Derived.Laws.Tables
namespace Go.Proofs.YtdabcflpcklfiaaGreat
open Go.RowKit

/-- The profile's cells when k steps have been gone through. -/
def prf (p d j : Int) (K N : Nat → Int) (k q : Nat) : Value :=
  if q = 0 then .int .i64 p else if q = 1 then .int .i64 d else if q = 2 then .int .i64 j else if q = 3 then .int .i64 (Cad.demTo K N k) else .int .i64 (Cad.lonTo K N ((q - 4 : Nat) : Int) k)
def bgf (K N : Nat → Int) (k q : Nat) : Value := .int .i64 (Cad.begTo K N (q : Int) k)
def zer (_ : Nat) : Value := .int .i64 0

structure ProfInv (w wr : World) (p d j : Int) (K N : Nat → Int) (k : Nat) : Prop where
  below : Below w.heap.size w wr
  prow : wr.rowIs (w.heap.size + 2) 168 12 (prf p d j K N k)
  brow : wr.rowIs (w.heap.size + 3) 139 8 (bgf K N k)
  rrow : wr.rowIs (w.heap.size + 1) 168 12 zer

theorem row_lit (w : World) (c : Array Value) (t : TypeId) (g n : Nat) (f : Nat → Value) (hg : g = w.heap.size) (hn : c.size = n) (hc : ∀ i, i < n → c[i]? = some (f i)) : (w.alloc (.cells c t)).rowIs g t n f := by
  subst hg hn
  exact World.rowIs_alloc w c t f hc

theorem prof_start (w : World) (o : Obj) (p d j : Int) (K N : Nat → Int) :
    ProfInv w ((((w.alloc o).alloc (.cells #[.int .i64 0, .int .i64 0, .int .i64 0, .int .i64 0, .int .i64 0, .int .i64 0, .int .i64 0, .int .i64 0, .int .i64 0, .int .i64 0, .int .i64 0, .int .i64 0] 168)).alloc (.cells #[.int .i64 p, .int .i64 d, .int .i64 j, .int .i64 0, .int .i64 0, .int .i64 0, .int .i64 0, .int .i64 0, .int .i64 0, .int .i64 0, .int .i64 0, .int .i64 0] 168)).alloc (.cells #[.int .i64 0, .int .i64 0, .int .i64 0, .int .i64 0, .int .i64 0, .int .i64 0, .int .i64 0, .int .i64 0] 139)) p d j K N 0 := by
  refine ⟨(((below_alloc1 _ _).alloc (by simp) _).alloc (by simp; omega) _).alloc (by simp; omega) _, ?_, ?_, ?_⟩
  · refine World.rowIs.alloc (row_lit _ _ _ _ _ _ (by simp) rfl (fun i hi => ?_)) _
    match i, hi with
    | 0, _ => rfl
    | 1, _ => rfl
    | 2, _ => rfl
    | 3, _ => rfl
    | 4, _ => rfl
    | 5, _ => rfl
    | 6, _ => rfl
    | 7, _ => rfl
    | 8, _ => rfl
    | 9, _ => rfl
    | 10, _ => rfl
    | 11, _ => rfl
  · refine row_lit _ _ _ _ _ _ (by simp) rfl (fun i hi => ?_)
    match i, hi with
    | 0, _ => rfl
    | 1, _ => rfl
    | 2, _ => rfl
    | 3, _ => rfl
    | 4, _ => rfl
    | 5, _ => rfl
    | 6, _ => rfl
    | 7, _ => rfl
  · refine World.rowIs.alloc (World.rowIs.alloc (row_lit _ _ _ _ _ _ (by simp) rfl (fun i hi => ?_)) _) _
    match i, hi with
    | 0, _ => rfl
    | 1, _ => rfl
    | 2, _ => rfl
    | 3, _ => rfl
    | 4, _ => rfl
    | 5, _ => rfl
    | 6, _ => rfl
    | 7, _ => rfl
    | 8, _ => rfl
    | 9, _ => rfl
    | 10, _ => rfl
    | 11, _ => rfl

theorem ProfInv.compute {w wr : World} {p d j : Int} {K N : Nat → Int} {k : Nat} (h : ProfInv w wr p d j K N k) (h1 : K k = 1) :
    ProfInv w (wr.setCell ⟨w.heap.size + 2, 3, none⟩ (.int .i64 (Cad.demTo K N k + N k))) p d j K N (k + 1) := by
  have hp := h.prow
  have hb := h.brow
  have hr := h.rrow
  refine ⟨h.below.setCell (by show _ ≤ w.heap.size + 2; omega) _, (hp.set 3 _).congr (fun q hq => ?_), (hb.setOther (by show _ ≠ w.heap.size + 2; omega) _).congr (fun q _ => ?_), hr.setOther (by show _ ≠ w.heap.size + 2; omega) _⟩
  · unfold prf
    by_cases e : q = 3
    · subst e; simp [Cad.demTo, h1]
    · simp [e, Cad.lonTo, h1]
  · unfold bgf
    simp [Cad.begTo, h1]

theorem ProfInv.lock {w wr : World} {p d j : Int} {K N : Nat → Int} {k r : Nat} (h : ProfInv w wr p d j K N k) (h1 : K k = 2) (hr : N k = (r : Int)) :
    ProfInv w (wr.setCell ⟨w.heap.size + 3, r, none⟩ (.int .i64 (Cad.demTo K N k))) p d j K N (k + 1) := by
  have hp := h.prow
  have hb := h.brow
  have hq := h.rrow
  refine ⟨h.below.setCell (by show _ ≤ w.heap.size + 3; omega) _, (hp.setOther (by show _ ≠ w.heap.size + 3; omega) _).congr (fun q _ => ?_), (hb.set r _).congr (fun q _ => ?_), hq.setOther (by show _ ≠ w.heap.size + 3; omega) _⟩
  · unfold prf
    simp [Cad.demTo, Cad.lonTo, h1]
  · unfold bgf
    by_cases e : q = r
    · subst e; simp [Cad.begTo, h1, hr]
    · have : ¬ (r : Int) = (q : Int) := by omega
      simp [e, Cad.begTo, h1, hr, this]

theorem ProfInv.unlock {w wr : World} {p d j : Int} {K N : Nat → Int} {k r : Nat} {x : Int} (h : ProfInv w wr p d j K N k) (h1 : K k = 3) (hr : N k = (r : Int)) (hx : x = max (Cad.lonTo K N (r : Int) k) (Cad.demTo K N k - Cad.begTo K N (r : Int) k)) :
    ProfInv w (wr.setCell ⟨w.heap.size + 2, 4 + r, none⟩ (.int .i64 x)) p d j K N (k + 1) := by
  have hp := h.prow
  have hb := h.brow
  have hq := h.rrow
  refine ⟨h.below.setCell (by show _ ≤ w.heap.size + 2; omega) _, (hp.set (4 + r) _).congr (fun q _ => ?_), (hb.setOther (by show _ ≠ w.heap.size + 2; omega) _).congr (fun q _ => ?_), hq.setOther (by show _ ≠ w.heap.size + 2; omega) _⟩
  · unfold prf
    by_cases e : q = 4 + r
    · subst e
      rw [if_pos rfl, if_neg (by omega), if_neg (by omega), if_neg (by omega), if_neg (by omega), show 4 + r - 4 = r by omega, hx]
      simp [Cad.lonTo, h1, hr]
    · rw [if_neg e]
      by_cases e0 : q = 0
      · rw [if_pos e0, if_pos e0]
      · rw [if_neg e0, if_neg e0]
        by_cases e1 : q = 1
        · rw [if_pos e1, if_pos e1]
        · rw [if_neg e1, if_neg e1]
          by_cases e2 : q = 2
          · rw [if_pos e2, if_pos e2]
          · rw [if_neg e2, if_neg e2]
            by_cases e3 : q = 3
            · rw [if_pos e3, if_pos e3]; simp [Cad.demTo, h1]
            · rw [if_neg e3, if_neg e3]
              have : ¬ (r : Int) = ((q - 4 : Nat) : Int) := by omega
              simp only [Cad.lonTo]
              rw [if_neg (by rw [hr]; exact fun g => this g.2)]
  · unfold bgf
    simp [Cad.begTo, h1]

theorem ProfInv.alloc {w wr : World} {p d j : Int} {K N : Nat → Int} {k : Nat} (h : ProfInv w wr p d j K N k) (o : Obj) : ProfInv w (wr.alloc o) p d j K N k := ⟨h.below.alloc h.below.size o, h.prow.alloc o, h.brow.alloc o, h.rrow.alloc o⟩

theorem ProfInv.drewN {w wr : World} {p d j : Int} {K N : Nat → Int} {k : Nat} (h : ProfInv w wr p d j K N k) (m : Nat) : ProfInv w (wr.drewN m) p d j K N k := ⟨below_drewN h.below m, h.prow, h.brow, h.rrow⟩

theorem row12 {w : World} {b t : Nat} {f : Nat → Value} (h : w.rowIs b t 12 f) : w.heap[b]? = some (.cells #[f 0, f 1, f 2, f 3, f 4, f 5, f 6, f 7, f 8, f 9, f 10, f 11] t (0, 0)) := by
  obtain ⟨c, hb, hn, hc⟩ := h
  rw [hb]
  congr 2
  apply Array.ext (by simpa using hn)
  intro i h1 h2
  have := hc i (by omega)
  rw [Array.getElem?_eq_getElem h1] at this
  rw [Option.some.inj this]
  have h3 : i < 12 := h2
  match i, h3 with
  | 0, _ => rfl
  | 1, _ => rfl
  | 2, _ => rfl
  | 3, _ => rfl
  | 4, _ => rfl
  | 5, _ => rfl
  | 6, _ => rfl
  | 7, _ => rfl
  | 8, _ => rfl
  | 9, _ => rfl
  | 10, _ => rfl
  | 11, _ => rfl

theorem all12 (a0 a1 a2 a3 a4 a5 a6 a7 a8 a9 a10 a11 : Int) : (#[.int .i64 a0, .int .i64 a1, .int .i64 a2, .int .i64 a3, .int .i64 a4, .int .i64 a5, .int .i64 a6, .int .i64 a7, .int .i64 a8, .int .i64 a9, .int .i64 a10, .int .i64 a11] : Array Value).all (·.oneCell') = true := by simp [Value.oneCell']

theorem begTo_range {K N : Nat → Int} {len k : Nat} {r : Int} (h : Cad.progB K N len = true) (hk : k ≤ len) : 0 ≤ Cad.begTo K N r k ∧ Cad.begTo K N r k ≤ 1600 := by
  induction k with
  | zero => simp [Cad.begTo]
  | succ k ih =>
    have h1 := ih (by omega)
    have h2 := demTo_range (k := k) h (by omega)
    simp only [Cad.begTo]
    split
    · exact h2
    · exact h1

theorem lonTo_range {K N : Nat → Int} {len k : Nat} {r : Int} (h : Cad.progB K N len = true) (hk : k ≤ len) : 0 ≤ Cad.lonTo K N r k ∧ Cad.lonTo K N r k ≤ 1600 := by
  induction k with
  | zero => simp [Cad.lonTo]
  | succ k ih =>
    have h1 := ih (by omega)
    have h2 := demTo_range (k := k) h (by omega)
    have h3 := begTo_range (r := r) (k := k) h (by omega)
    simp only [Cad.lonTo]
    split
    · by_cases g : Cad.lonTo K N r k ≤ Cad.demTo K N k - Cad.begTo K N r k
      · rw [Int.max_eq_right g]; omega
      · rw [Int.max_eq_left (by omega)]; omega
    · exact h1

set_option maxRecDepth 100000 in
set_option maxHeartbeats 4000000 in
theorem profile_any (p d j : Int) (b off len cap : Nat) (K N : Nat → Int) (w : World) (hv : Cad.progB K N len = true) (hb : b < w.heap.size) (hc : StepsAt w b off len K N) :
    Calls Tryz.prog 92 #[.agg #[.int .i64 p, .int .i64 d, .int .i64 j, .slice (some ⟨b, off, none⟩) len cap]] w fun e w' =>
      e = .returned (.agg #[.int .i64 p, .int .i64 d, .int .i64 j, .int .i64 (Cad.demTo K N len), .int .i64 (Cad.lonTo K N 0 len), .int .i64 (Cad.lonTo K N 1 len), .int .i64 (Cad.lonTo K N 2 len), .int .i64 (Cad.lonTo K N 3 len), .int .i64 (Cad.lonTo K N 4 len), .int .i64 (Cad.lonTo K N 5 len), .int .i64 (Cad.lonTo K N 6 len), .int .i64 (Cad.lonTo K N 7 len)]) ∧ Below w.heap.size w w' := by
  have HV : Hid (Cad.progB K N len = true) := hv
  have HC : Hid (StepsAt w b off len K N) := hc
  have HP0 : Hid (ProfInv w _ p d j K N 0) := prof_start w (.cells #[.int .i64 p, .int .i64 d, .int .i64 j, .slice (some ⟨b, off, none⟩) len cap] 77) p d j K N
  have h16 : len ≤ 16 := (Cad.progB_inv hv).2.1
  clear hv hc
  go_enter Tryz.func92, Tryz.ntmps92
  go_wp2
  generalize (((w.alloc (.cells #[.int .i64 p, .int .i64 d, .int .i64 j, .slice (some ⟨b, off, none⟩) len cap] 77)).alloc (.cells #[.int .i64 0, .int .i64 0, .int .i64 0, .int .i64 0, .int .i64 0, .int .i64 0, .int .i64 0, .int .i64 0, .int .i64 0, .int .i64 0, .int .i64 0, .int .i64 0] 168)).alloc (.cells #[.int .i64 p, .int .i64 d, .int .i64 j, .int .i64 0, .int .i64 0, .int .i64 0, .int .i64 0, .int .i64 0, .int .i64 0, .int .i64 0, .int .i64 0, .int .i64 0] 168)).alloc (.cells #[.int .i64 0, .int .i64 0, .int .i64 0, .int .i64 0, .int .i64 0, .int .i64 0, .int .i64 0, .int .i64 0] 139) = W at *
  go_loopw [17] (fun iv wr => ∃ k : Nat, k ≤ len ∧ iv = .int .i64 k ∧ ProfInv w wr p d j K N k) (fun iv _ => len - (intOf iv).toNat)
  case atStart => exact ⟨0, Nat.zero_le _, rfl, HP0.out⟩
  case round =>
    obtain ⟨k, hk, rfl, hinv⟩ := hrel
    have HINV : Hid (ProfInv w wr p d j K N k) := hinv
    have hbrl := hinv.brow.lt
    have hbwr : b < wr.heap.size := by omega
    have hd0 := demTo_range (k := k) HV.out hk
    by_cases hlt : k < len
    · have s0 := (StepsAt.below HC.out hb hinv.below k hlt).1
      have s1 := (StepsAt.below HC.out hb hinv.below k hlt).2
      have x3 : wr.cell? ⟨w.heap.size + 2, 3, none⟩ = some (.int .i64 (Cad.demTo K N k)) := (hinv.prow.cell (by omega)).trans rfl
      have z2 : ∀ q, wr.frozen? ⟨w.heap.size + 2, q, none⟩ = false := fun q => hinv.prow.frozen q
      have z3 : ∀ q, wr.frozen? ⟨w.heap.size + 3, q, none⟩ = false := fun q => hinv.brow.frozen q
      have hl2 : w.heap.size + 2 < wr.heap.size := by omega
      have hok := (Cad.progB_inv HV.out).2.2.2.steps k hlt
      have HPR : Hid (wr.rowIs (w.heap.size + 2) 168 12 (prf p d j K N k)) := hinv.prow
      have HBR : Hid (wr.rowIs (w.heap.size + 3) 139 8 (bgf K N k)) := hinv.brow
      clear hinv
      rcases hok with ⟨h1, n1, n2⟩ | ⟨h1, n1, n2⟩ | ⟨h1, n1, n2, _, _⟩
      · have FIN : Hid (ProfInv w (wr.setCell ⟨w.heap.size + 1 + 1, 3, none⟩ (.int .i64 (Cad.demTo K N k + N k))) p d j K N (k + 1)) := ProfInv.compute HINV.out h1
        have b1 : (K k == 1) = true := by simpa using h1
        clear h1
        go_wp2
        go_roundw
        case rel => exact ⟨k + 1, by omega, by go_num, ProfInv.alloc FIN.out _⟩
        case measure => simp [intOf]; omega
      · obtain ⟨r, hr⟩ : ∃ r : Nat, N k = (r : Int) := ⟨(N k).toNat, by omega⟩
        have FIN : Hid (ProfInv w (wr.setCell ⟨w.heap.size + 1 + 1 + 1, r, none⟩ (.int .i64 (Cad.demTo K N k))) p d j K N (k + 1)) := ProfInv.lock HINV.out h1 hr
        have hr8 : r < 8 := by omega
        have x4 : wr.cell? ⟨w.heap.size + 3, r, none⟩ = some (bgf K N k r) := World.rowIs.cell HBR.out (by omega)
        have b1 : (K k == 1) = false := by simp [h1]
        have b2 : (K k == 2) = true := by simpa using h1
        rw [hr] at s1 n1 n2
        clear h1 hr
        go_wp2
        go_roundw
        case rel => exact ⟨k + 1, by omega, by go_num, ProfInv.alloc FIN.out _⟩
        case measure => simp [intOf]; omega
      · obtain ⟨r, hr⟩ : ∃ r : Nat, N k = (r : Int) := ⟨(N k).toNat, by omega⟩
        have hr8 : r < 8 := by omega
        have x4 : wr.cell? ⟨w.heap.size + 3, r, none⟩ = some (.int .i64 (Cad.begTo K N (r : Int) k)) := (World.rowIs.cell HBR.out (by omega)).trans rfl
        have x5 : wr.cell? ⟨w.heap.size + 2, 4 + r, none⟩ = some (.int .i64 (Cad.lonTo K N (r : Int) k)) := (World.rowIs.cell HPR.out (by omega)).trans (by unfold prf; rw [if_neg (by omega), if_neg (by omega), if_neg (by omega), if_neg (by omega), show 4 + r - 4 = r by omega])
        have hb0 := begTo_range (r := (r : Int)) (k := k) HV.out hk
        have hl0 := lonTo_range (r := (r : Int)) (k := k) HV.out hk
        have b1 : (K k == 1) = false := by simp [h1]
        have b2 : (K k == 2) = false := by simp [h1]
        have b3 : (K k == 3) = true := by simpa using h1
        have FIN : Hid (∀ x, x = max (Cad.lonTo K N (r : Int) k) (Cad.demTo K N k - Cad.begTo K N (r : Int) k) → ProfInv w (wr.setCell ⟨w.heap.size + 1 + 1, 4 + r, none⟩ (.int .i64 x)) p d j K N (k + 1)) := fun x hx => ProfInv.unlock HINV.out h1 hr hx
        rw [hr] at s1 n1 n2
        clear h1 hr
        go_wp2
        go_region
        all_goals
          go_wp2
          go_roundw
          case rel => exact ⟨k + 1, by omega, by go_num, ProfInv.drewN (ProfInv.alloc (FIN.out _ (max_if _ _)) _) 1⟩
          case measure => simp [intOf]; omega
    · obtain rfl : k = len := by omega
      have hp2 : wr.heap[w.heap.size + 2]? = some (.cells #[.int .i64 p, .int .i64 d, .int .i64 j, .int .i64 (Cad.demTo K N k), .int .i64 (Cad.lonTo K N 0 k), .int .i64 (Cad.lonTo K N 1 k), .int .i64 (Cad.lonTo K N 2 k), .int .i64 (Cad.lonTo K N 3 k), .int .i64 (Cad.lonTo K N 4 k), .int .i64 (Cad.lonTo K N 5 k), .int .i64 (Cad.lonTo K N 6 k), .int .i64 (Cad.lonTo K N 7 k)] 168 (0, 0)) := row12 hinv.prow
      have hr2 : wr.heap[w.heap.size + 1]? = some (.cells #[.int .i64 0, .int .i64 0, .int .i64 0, .int .i64 0, .int .i64 0, .int .i64 0, .int .i64 0, .int .i64 0, .int .i64 0, .int .i64 0, .int .i64 0, .int .i64 0] 168 (0, 0)) := row12 hinv.rrow
      have HP2 : Hid (wr.heap[w.heap.size + 2]? = some (.cells #[.int .i64 p, .int .i64 d, .int .i64 j, .int .i64 (Cad.demTo K N k), .int .i64 (Cad.lonTo K N 0 k), .int .i64 (Cad.lonTo K N 1 k), .int .i64 (Cad.lonTo K N 2 k), .int .i64 (Cad.lonTo K N 3 k), .int .i64 (Cad.lonTo K N 4 k), .int .i64 (Cad.lonTo K N 5 k), .int .i64 (Cad.lonTo K N 6 k), .int .i64 (Cad.lonTo K N 7 k)] 168 (0, 0))) := hp2
      have HR2 : Hid (wr.heap[w.heap.size + 1]? = some (.cells #[.int .i64 0, .int .i64 0, .int .i64 0, .int .i64 0, .int .i64 0, .int .i64 0, .int .i64 0, .int .i64 0, .int .i64 0, .int .i64 0, .int .i64 0, .int .i64 0] 168 (0, 0))) := hr2
      have HBL : Hid (Below w.heap.size w wr) := hinv.below
      clear hinv hp2 hr2
      go_wp2_with (first | (refine wpList_load_row rfl 168 (.tmp 3) rfl (w.heap.size + 2) rfl 168 #[.int .i64 p, .int .i64 d, .int .i64 j, .int .i64 (Cad.demTo K N k), .int .i64 (Cad.lonTo K N 0 k), .int .i64 (Cad.lonTo K N 1 k), .int .i64 (Cad.lonTo K N 2 k), .int .i64 (Cad.lonTo K N 3 k), .int .i64 (Cad.lonTo K N 4 k), .int .i64 (Cad.lonTo K N 5 k), .int .i64 (Cad.lonTo K N 6 k), .int .i64 (Cad.lonTo K N 7 k)] (0, 0) _ HP2.out Tryz.underlying168 rfl (by kernel_rfl) ?_) | (refine wpList_store_row rfl 168 (.tmp 2) (.tmp 58) rfl (w.heap.size + 1) #[.int .i64 p, .int .i64 d, .int .i64 j, .int .i64 (Cad.demTo K N k), .int .i64 (Cad.lonTo K N 0 k), .int .i64 (Cad.lonTo K N 1 k), .int .i64 (Cad.lonTo K N 2 k), .int .i64 (Cad.lonTo K N 3 k), .int .i64 (Cad.lonTo K N 4 k), .int .i64 (Cad.lonTo K N 5 k), .int .i64 (Cad.lonTo K N 6 k), .int .i64 (Cad.lonTo K N 7 k)] rfl rfl 168 #[.int .i64 0, .int .i64 0, .int .i64 0, .int .i64 0, .int .i64 0, .int .i64 0, .int .i64 0, .int .i64 0, .int .i64 0, .int .i64 0, .int .i64 0, .int .i64 0] HR2.out (by kernel_rfl) rfl (all12 _ _ _ _ _ _ _ _ _ _ _ _) ?_))
      refine bodyPost_ret (results_cell_row rfl _ _ (w.heap.size + 1) 168 _ (0, 0) _ rfl (setRow_heap _ _ _ _ _ _ HR2.out) Tryz.underlying168 rfl (by kernel_rfl)) rfl ⟨rfl, ?_⟩
      exact HBL.out.trans ⟨rfl, rfl, rfl, by simp, fun q hq => setRow_other _ _ _ _ (by omega)⟩
end Go.Proofs.YtdabcflpcklfiaaGreat
