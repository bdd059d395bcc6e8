import Derived.Test.YtdabcflpcklfiaaGreatK29
/- The document's second example: its tasks, its bounds. -/
namespace Go.Proofs.YtdabcflpcklfiaaGreat
open Go.RowKit Cad

def exP (i : Nat) : Int := if i = 0 then 10 else if i = 1 then 20 else 50
def exD (i : Nat) : Int := if i = 0 then 10 else if i = 1 then 18 else 50
def exJ (i : Nat) : Int := if i = 1 then 2 else 0
def exL (i : Nat) : Nat := if i = 1 then 1 else 4
def exK (i k : Nat) : Int := if i = 1 then 1 else if k = 0 then 2 else if k = 2 then 3 else 1
def exN (i k : Nat) : Int := if i = 0 then (if k = 1 then 1 else if k = 3 then 2 else 0) else if i = 1 then 4 else (if k = 1 then 5 else if k = 3 then 1 else 0)
def exZ (i : Nat) : Int := if i = 0 then 2 else if i = 1 then 1 else 0
def exT (B : Nat) : TD := { P := exP, D := exD, J := exJ, A := fun i => some ⟨B + i, 0, none⟩, L := exL, C := exL, K := exK, N := exN }

theorem ex_chk (B : Nat) : chkR (exT B) 3 = (0, 0) := by
  show Cad.chk (fun i => Cad.taskE (exP i) (exD i) (exJ i) (exK i) (exN i) (exL i)) 3 = (0, 0)
  decide

theorem ex_prio : PrioB exZ 3 := by
  refine ⟨fun k hk => ?_, fun a b ha hb e => ?_⟩
  · unfold exZ
    split
    · omega
    · split <;> omega
  · unfold exZ at e
    (repeat' split at e) <;> omega

theorem lon_ex (j q : Nat) (hj : j < 3) (hq : q < 8) : Cad.lonTo (exK j) (exN j) (q : Int) (exL j) = if q = 0 then (if j = 0 then 1 else if j = 2 then 5 else 0) else 0 := by
  have : ∀ j, j < 3 → ∀ q, q < 8 → Cad.lonTo (exK j) (exN j) ((q : Nat) : Int) (exL j) = if q = 0 then (if j = 0 then 1 else if j = 2 then 5 else 0) else 0 := by decide
  exact this j hj q hq

theorem dm_ex (j : Nat) (hj : j < 3) : Cad.demTo (exK j) (exN j) (exL j) = if j = 0 then 3 else if j = 1 then 4 else 6 := by
  have : ∀ j, j < 3 → Cad.demTo (exK j) (exN j) (exL j) = if j = 0 then 3 else if j = 1 then 4 else 6 := by decide
  exact this j hj

theorem ex_block {B i : Nat} {s : Int} (hi : i < 3) (h : BcTo (exT B) (withI (abv exZ 3 i) i) 3 3 0 s) : s = if i = 2 then 0 else 5 := by
  obtain ⟨h0, h1, h2⟩ := h
  by_cases e2 : i = 2
  · subst e2
    rw [if_pos rfl]
    rcases h1 with h1 | ⟨a, q, hh, hr, _, _⟩
    · exact h1
    · have ha : a < 3 := by omega
      exfalso
      have : ∀ a, a < 3 → withI (abv exZ 3 2) 2 a = true := by decide
      rw [this a ha] at hr
      cases hr
  · rw [if_neg e2]
    have hmem : SCTo (exT B) (withI (abv exZ 3 i) i) 3 3 0 5 := by
      refine ⟨2, 0, .inl ⟨by omega, by omega⟩, ?_, ⟨0, by omega, ?_, ?_⟩, ?_⟩
      · have : ∀ i, i < 2 → withI (abv exZ 3 i) i 2 = false := by decide
        exact this i (by omega)
      · have : ∀ i, i < 2 → withI (abv exZ 3 i) i 0 = true := by decide
        exact this i (by omega)
      · show 0 < Cad.lonTo (exK 0) (exN 0) ((0 : Nat) : Int) (exL 0)
        rw [lon_ex 0 0 (by omega) (by omega)]; decide
      · show (5 : Int) = Cad.lonTo (exK 2) (exN 2) ((0 : Nat) : Int) (exL 2)
        rw [lon_ex 2 0 (by omega) (by omega)]; decide
    have hge := h2 5 hmem
    rcases h1 with h1 | ⟨a, q, hh, _, _, he⟩
    · omega
    · have ha : a < 3 := by omega
      have hq : q < 8 := by omega
      have he' : s = Cad.lonTo (exK a) (exN a) (q : Int) (exL a) := he
      rw [lon_ex a q ha hq] at he'
      split at he'
      · split at he'
        · omega
        · split at he' <;> omega
      · omega

theorem ex_bounds {B i : Nat} {r : Int} (hi : i < 3) (h : CodeB (exT B) exZ 3 i r) : r = if i = 0 then 8 else if i = 1 then 17 else 16 := by
  obtain ⟨s, hs, hb⟩ := h
  have hs' := ex_block hi hs
  subst hs'
  have d0 := dm_ex 0 (by omega)
  have d1 := dm_ex 1 (by omega)
  have d2 := dm_ex 2 (by omega)
  rw [if_pos rfl] at d0
  rw [if_neg (by decide), if_pos rfl] at d1
  rw [if_neg (by decide), if_neg (by decide)] at d2
  have hin : ∀ u : Int, Cad.inter (exT B).P (exT B).J (exT B).dm (abv exZ 3 i) u 3 = (if abv exZ 3 i 0 = true then ((u + 0 + 10 - 1) / 10) * 3 else 0) + (if abv exZ 3 i 1 = true then ((u + 2 + 20 - 1) / 20) * 4 else 0) + (if abv exZ 3 i 2 = true then ((u + 0 + 50 - 1) / 50) * 6 else 0) := by
    intro u
    have e0 : (exT B).dm 0 = 3 := d0
    have e1 : (exT B).dm 1 = 4 := d1
    have e2 : (exT B).dm 2 = 6 := d2
    simp only [Cad.inter, Cad.ceilD, e0, e1, e2, Int.zero_add]
    rfl
  have hdm : (exT B).dm i = if i = 0 then 3 else if i = 1 then 4 else 6 := dm_ex i hi
  match i, hi with
  | 0, _ =>
    have a0 : abv exZ 3 0 0 = false := by decide
    have a1 : abv exZ 3 0 1 = false := by decide
    have a2 : abv exZ 3 0 2 = false := by decide
    rw [a0, a1, a2] at hin
    have hf : ∀ u : Int, (exT B).dm 0 + (if (0 : Nat) = 2 then 0 else 5) + Cad.inter (exT B).P (exT B).J (exT B).dm (abv exZ 3 0) u 3 = 8 := fun u => by rw [hin u, hdm]; simp
    rcases hb with ⟨w, h1, h2, h3, h4, h5⟩ | ⟨_, h6⟩
    · have h3' := (hf w).symm.trans h3
      have hj : (exT B).J 0 = 0 := rfl
      rw [hj] at h5
      rw [if_pos rfl]
      omega
    · exact absurd (hf 8) (h6 8 (by omega) (by show (8 : Int) + 0 ≤ 10; omega))
  | 1, _ =>
    have a0 : abv exZ 3 1 0 = true := by decide
    have a1 : abv exZ 3 1 1 = false := by decide
    have a2 : abv exZ 3 1 2 = false := by decide
    rw [a0, a1, a2] at hin
    have hf : ∀ u : Int, (exT B).dm 1 + (if (1 : Nat) = 2 then 0 else 5) + Cad.inter (exT B).P (exT B).J (exT B).dm (abv exZ 3 1) u 3 = 9 + (u + 9) / 10 * 3 := fun u => by rw [hin u, hdm]; simp; omega
    rcases hb with ⟨w, h1, h2, h3, h4, h5⟩ | ⟨_, h6⟩
    · have h3' := (hf w).symm.trans h3
      have hj : (exT B).J 1 = 2 := rfl
      have hd : (exT B).D 1 = 18 := rfl
      rw [hj] at h5 h2
      rw [hd] at h2
      rw [if_neg (by decide), if_pos rfl]
      omega
    · exact absurd (hf 15) (h6 15 (by omega) (by show (15 : Int) + 2 ≤ 18; omega))
  | 2, _ =>
    have a0 : abv exZ 3 2 0 = true := by decide
    have a1 : abv exZ 3 2 1 = true := by decide
    have a2 : abv exZ 3 2 2 = false := by decide
    rw [a0, a1, a2] at hin
    have hf : ∀ u : Int, (exT B).dm 2 + (if (2 : Nat) = 2 then 0 else 5) + Cad.inter (exT B).P (exT B).J (exT B).dm (abv exZ 3 2) u 3 = 6 + (u + 9) / 10 * 3 + (u + 21) / 20 * 4 := fun u => by rw [hin u, hdm]; simp; omega
    rcases hb with ⟨w, h1, h2, h3, h4, h5⟩ | ⟨_, h6⟩
    · have h3' := (hf w).symm.trans h3
      have hj : (exT B).J 2 = 0 := rfl
      rw [hj] at h5
      rw [if_neg (by decide), if_neg (by decide)]
      have hle : w ≤ 16 := by
        rcases Int.lt_or_le 16 w with hl | hl
        · exact absurd (hf 16) (h4 16 (by omega) hl)
        · exact hl
      have h3'' : 6 + (w + 9) / 10 * 3 + (w + 21) / 20 * 4 = w := h3'
      have hx : (w + 21) / 20 = 1 := by omega
      have hy : (w + 9) / 10 = 1 ∨ (w + 9) / 10 = 2 := by omega
      rw [hx] at h3''
      rcases hy with hy | hy
      · rw [hy] at h3''
        omega
      · rw [hy] at h3''
        omega
    · exact absurd (hf 16) (h6 16 (by omega) (by show (16 : Int) + 0 ≤ 50; omega))

set_option maxRecDepth 100000 in
set_option maxHeartbeats 1000000 in
theorem example_any (w : World) : Calls Tryz.prog 80 #[] w fun e w' => e = .returned (.slice (some ⟨w.heap.size + 3, 0, none⟩) 3 3) ∧ TasksAt w' (w.heap.size + 3) 0 3 (exT w.heap.size) ∧ w.heap.size + 3 < w'.heap.size ∧ Below w.heap.size w w' := by
  go_enter Tryz.func80, Tryz.ntmps80
  go_wp2
  go_ret
  have r0 := World.rowIs_alloc w #[.int .i64 2, .int .i64 0, .int .i64 1, .int .i64 1, .int .i64 3, .int .i64 0, .int .i64 1, .int .i64 2] 86 (fun q => stepF (exK 0) (exN 0) q) (fun i hi => by
    have hi' : i < 8 := hi
    match i, hi' with
    | 0, _ => rfl
    | 1, _ => rfl
    | 2, _ => rfl
    | 3, _ => rfl
    | 4, _ => rfl
    | 5, _ => rfl
    | 6, _ => rfl
    | 7, _ => rfl)
  obtain ⟨w1, hw1⟩ : ∃ w1, w1 = w.alloc (.cells #[.int .i64 2, .int .i64 0, .int .i64 1, .int .i64 1, .int .i64 3, .int .i64 0, .int .i64 1, .int .i64 2] 86) := ⟨_, rfl⟩
  have s1 : w1.heap.size = w.heap.size + 1 := by rw [hw1]; simp
  rw [← hw1] at r0 ⊢
  have b1 : Below w.heap.size w w1 := by rw [hw1]; exact below_alloc1 _ _
  have r1 := World.rowIs_alloc w1 #[.int .i64 1, .int .i64 4] 86 (fun q => stepF (exK 1) (exN 1) q) (fun i hi => by
    have hi' : i < 2 := hi
    match i, hi' with
    | 0, _ => rfl
    | 1, _ => rfl)
  obtain ⟨w2, hw2⟩ : ∃ w2, w2 = w1.alloc (.cells #[.int .i64 1, .int .i64 4] 86) := ⟨_, rfl⟩
  have s2 : w2.heap.size = w.heap.size + 1 + 1 := by rw [hw2]; simp [s1]
  have q0 : w2.rowIs w.heap.size 86 8 (fun q => stepF (exK 0) (exN 0) q) := by rw [hw2]; exact r0.alloc _
  rw [← hw2] at r1 ⊢
  have b2 : Below w.heap.size w w2 := by rw [hw2]; exact b1.alloc b1.size _
  have r2 := World.rowIs_alloc w2 #[.int .i64 2, .int .i64 0, .int .i64 1, .int .i64 5, .int .i64 3, .int .i64 0, .int .i64 1, .int .i64 1] 86 (fun q => stepF (exK 2) (exN 2) q) (fun i hi => by
    have hi' : i < 8 := hi
    match i, hi' with
    | 0, _ => rfl
    | 1, _ => rfl
    | 2, _ => rfl
    | 3, _ => rfl
    | 4, _ => rfl
    | 5, _ => rfl
    | 6, _ => rfl
    | 7, _ => rfl)
  obtain ⟨w3, hw3⟩ : ∃ w3, w3 = w2.alloc (.cells #[.int .i64 2, .int .i64 0, .int .i64 1, .int .i64 5, .int .i64 3, .int .i64 0, .int .i64 1, .int .i64 1] 86) := ⟨_, rfl⟩
  have s3 : w3.heap.size = w.heap.size + 1 + 1 + 1 := by rw [hw3]; simp [s2]
  have p0 : w3.rowIs w.heap.size 86 8 (fun q => stepF (exK 0) (exN 0) q) := by rw [hw3]; exact q0.alloc _
  have p1 : w3.rowIs w1.heap.size 86 2 (fun q => stepF (exK 1) (exN 1) q) := by rw [hw3]; exact r1.alloc _
  rw [← hw3] at r2 ⊢
  have b3 : Below w.heap.size w w3 := by rw [hw3]; exact b2.alloc b2.size _
  have r3 := World.rowIs_alloc w3 #[.int .i64 10, .int .i64 10, .int .i64 0, .slice (some ⟨w.heap.size, 0, none⟩) 4 4, .int .i64 20, .int .i64 18, .int .i64 2, .slice (some ⟨w.heap.size + 1, 0, none⟩) 1 1, .int .i64 50, .int .i64 50, .int .i64 0, .slice (some ⟨w.heap.size + 1 + 1, 0, none⟩) 4 4] 77
    (fun q => if q % 4 = 0 then .int .i64 (exP (q / 4)) else if q % 4 = 1 then .int .i64 (exD (q / 4)) else if q % 4 = 2 then .int .i64 (exJ (q / 4)) else .slice (some ⟨w.heap.size + q / 4, 0, none⟩) (exL (q / 4)) (exL (q / 4))) (fun i hi => by
    have hi' : i < 12 := hi
    match i, hi' with
    | 0, _ => rfl
    | 1, _ => rfl
    | 2, _ => rfl
    | 3, _ => rfl
    | 4, _ => rfl
    | 5, _ => rfl
    | 6, _ => rfl
    | 7, _ => rfl
    | 8, _ => rfl
    | 9, _ => rfl
    | 10, _ => rfl
    | 11, _ => rfl)
  obtain ⟨w4, hw4⟩ : ∃ w4, w4 = w3.alloc (.cells #[.int .i64 10, .int .i64 10, .int .i64 0, .slice (some ⟨w.heap.size, 0, none⟩) 4 4, .int .i64 20, .int .i64 18, .int .i64 2, .slice (some ⟨w.heap.size + 1, 0, none⟩) 1 1, .int .i64 50, .int .i64 50, .int .i64 0, .slice (some ⟨w.heap.size + 1 + 1, 0, none⟩) 4 4] 77) := ⟨_, rfl⟩
  have s4 : w4.heap.size = w.heap.size + 4 := by rw [hw4]; simp [s3]
  have o0 : w4.rowIs w.heap.size 86 8 (fun q => stepF (exK 0) (exN 0) q) := by rw [hw4]; exact p0.alloc _
  have o1 : w4.rowIs w1.heap.size 86 2 (fun q => stepF (exK 1) (exN 1) q) := by rw [hw4]; exact p1.alloc _
  have o2 : w4.rowIs w2.heap.size 86 8 (fun q => stepF (exK 2) (exN 2) q) := by rw [hw4]; exact r2.alloc _
  rw [← hw4] at r3 ⊢
  have b4 : Below w.heap.size w w4 := by rw [hw4]; exact b3.alloc b3.size _
  rw [s1] at o1
  rw [s2] at o2
  rw [s3] at r3
  clear hw1 hw2 hw3 hw4
  have hst : ∀ i, i < 3 → StepsAt w4 (w.heap.size + i) 0 (exL i) (exK i) (exN i) := fun i hi k hk => by
    have key : ∀ (g m : Nat) (h : w4.rowIs g 86 m (fun q => stepF (exK i) (exN i) q)), exL i * 2 ≤ m → w4.cell? ⟨g, 0 + k * 2, none⟩ = some (.int .i64 (exK i k)) ∧ w4.cell? ⟨g, 0 + k * 2 + 1, none⟩ = some (.int .i64 (exN i k)) := fun g m h hm => by
      rw [Nat.zero_add, h.cell (by omega), h.cell (by omega)]
      unfold stepF
      rw [if_pos (by omega), if_neg (by omega), show k * 2 / 2 = k from by omega, show (k * 2 + 1) / 2 = k from by omega]
      exact ⟨rfl, rfl⟩
    match i, hi with
    | 0, _ => exact key _ 8 o0 (by decide)
    | 1, _ => exact key _ 2 o1 (by decide)
    | 2, _ => exact key _ 8 o2 (by decide)
  refine ⟨rfl, fun i hi => ?_, by omega, b4⟩
  have hc : ∀ q, q < 4 → w4.cell? ⟨w.heap.size + 3, 0 + i * 4 + q, none⟩ = some (if q = 0 then .int .i64 (exP i) else if q = 1 then .int .i64 (exD i) else if q = 2 then .int .i64 (exJ i) else .slice (some ⟨w.heap.size + i, 0, none⟩) (exL i) (exL i)) := fun q hq => by
    have := r3.cell (i := i * 4 + q) (by show i * 4 + q < 12; omega)
    rw [Nat.zero_add]
    rw [show (i * 4 + q) % 4 = q from by omega, show (i * 4 + q) / 4 = i from by omega] at this
    exact this
  refine ⟨hc 0 (by omega), hc 1 (by omega), hc 2 (by omega), hc 3 (by omega), ?_, fun _ => ⟨w.heap.size + i, 0, rfl, by omega, hst i hi⟩⟩
  show exL i ≤ _
  unfold exL
  split <;> omega
end Go.Proofs.YtdabcflpcklfiaaGreat
