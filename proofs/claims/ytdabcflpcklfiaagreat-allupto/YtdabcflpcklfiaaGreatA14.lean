import Derived.Test.YtdabcflpcklfiaaGreatA13
namespace Go.Proofs.YtdabcflpcklfiaaGreat
open Go.RowKit

theorem zf_last {n : Nat} {T : TD} {S : Nat → Nat} (c : Nat) : lf T S n (n * 4 + c) = zf c := by
  unfold lf zf
  rw [if_neg (by omega)]
  have : (n * 4 + c) % 4 = c % 4 := by omega
  rw [this]

/-- The lent programs when those below k have been turned over, and j steps of the next one. -/
def Gk (T : TD) (k j0 : Nat) (j p : Nat) : Value := if j < k then neg7 p else if j = k then (if p < j0 * 2 then neg7 p else sf (T.K j) (T.N j) (T.L j) p) else sf (T.K j) (T.N j) (T.L j) p

theorem lf_at {T : TD} {S : Nat → Nat} {n k : Nat} (hk : k < n) :
    lf T S n (k * 4) = .int .i64 (T.P k) ∧ lf T S n (k * 4 + 1) = .int .i64 (T.D k) ∧ lf T S n (k * 4 + 2) = .int .i64 (T.J k) ∧ lf T S n (k * 4 + 3) = .slice (some ⟨S k, 0, none⟩) (T.L k) (T.L k + 1) := by
  have e0 : k * 4 / 4 = k := by omega
  have e1 : (k * 4 + 1) / 4 = k := by omega
  have e2 : (k * 4 + 2) / 4 = k := by omega
  have e3 : (k * 4 + 3) / 4 = k := by omega
  have m0 : k * 4 % 4 = 0 := by omega
  have m1 : (k * 4 + 1) % 4 = 1 := by omega
  have m2 : (k * 4 + 2) % 4 = 2 := by omega
  have m3 : (k * 4 + 3) % 4 = 3 := by omega
  refine ⟨?_, ?_, ?_, ?_⟩
  · unfold lf lfld; rw [if_pos (by omega), e0, m0]; rfl
  · unfold lf lfld; rw [if_pos (by omega), e1, m1]; rfl
  · unfold lf lfld; rw [if_pos (by omega), e2, m2]; rfl
  · unfold lf lfld; rw [if_pos (by omega), e3, m3]; rfl

theorem Gk_at {T : TD} {k j p : Nat} (h : j * 2 ≤ p) : Gk T k j k p = sf (T.K k) (T.N k) (T.L k) p := by
  unfold Gk
  rw [if_neg (by omega), if_pos rfl, if_neg (by omega)]

theorem sf_at {K N : Nat → Int} {l j : Nat} (h : j < l) : sf K N l (j * 2) = .int .i64 (K j) ∧ sf K N l (j * 2 + 1) = .int .i64 (N j) := by
  have e0 : j * 2 / 2 = j := by omega
  have e1 : (j * 2 + 1) / 2 = j := by omega
  have m0 : j * 2 % 2 = 0 := by omega
  have m1 : (j * 2 + 1) % 2 = 1 := by omega
  refine ⟨?_, ?_⟩
  · unfold sf pf; rw [if_pos (by omega), e0, m0]; rfl
  · unfold sf pf; rw [if_pos (by omega), e1, m1]; rfl

theorem sf_end {K N : Nat → Int} {l p : Nat} (h : l * 2 ≤ p) : sf K N l p = .int .i64 0 := by
  unfold sf; rw [if_neg (by omega)]

theorem Gk_next {T : TD} {k i q : Nat} (hq : q < (T.L i + 1) * 2) : Gk T k (T.L k + 1) i q = Gk T (k + 1) 0 i q := by
  unfold Gk
  by_cases h1 : i < k
  · rw [if_pos h1, if_pos (by omega)]
  · rw [if_neg h1]
    by_cases h2 : i = k
    · subst h2
      rw [if_pos rfl, if_pos hq, if_pos (by omega)]
    · rw [if_neg h2, if_neg (by omega)]
      by_cases h3 : i = k + 1
      · rw [if_pos h3, if_neg (by omega)]
      · rw [if_neg h3]

theorem box_step {wr : World} {o : Obj} {nq bx sk a1 a2 : Nat} {u1 u2 val : Value} (h : wr.cell? ⟨bx, 3, none⟩ = some val) (hlt : bx < wr.heap.size) (hne : sk < bx) :
    ((((wr.alloc o).drewN nq).setCell ⟨sk, a1, none⟩ u1).setCell ⟨sk, a2, none⟩ u2).cell? ⟨bx, 3, none⟩ = some val := by
  rw [← h]
  apply World.cell?_of_block
  show _ = wr.heap[bx]?
  have hn : bx ≠ sk := by omega
  rw [Deep.blk_setCell_other _ _ _ _ (by exact hn), Deep.blk_setCell_other _ _ _ _ (by exact hn)]
  exact Deep.blk_alloc_lt _ _ _ hlt

theorem size_step {wr : World} {o : Obj} {nq sk a1 a2 z : Nat} {u1 u2 : Value} (h : z ≤ wr.heap.size) :
    z ≤ ((((wr.alloc o).drewN nq).setCell ⟨sk, a1, none⟩ u1).setCell ⟨sk, a2, none⟩ u2).heap.size := by
  rw [Deep.nblk_setCell, Deep.nblk_setCell]
  show z ≤ (wr.alloc o).heap.size
  rw [Deep.nblk_alloc]
  omega

def nz (q : Nat) : Value := if q % 4 = 0 then .int .i64 (-7) else zf q
/-- The lent tasks when those below i have been turned over. -/
def Lk (T : TD) (S : Nat → Nat) (n i q : Nat) : Value := if q < i * 4 then nz q else lf T S n q

end Go.Proofs.YtdabcflpcklfiaaGreat
