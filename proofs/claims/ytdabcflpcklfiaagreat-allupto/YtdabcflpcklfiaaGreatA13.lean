import Derived.WalkKit
import Derived.WalkSpells
import Derived.WalkLawsBesides
import Derived.Deep.OwnRows
import Derived.Laws.CopyRow
import Derived.Test.YtdabcflpcklfiaaGreatA12
/- Laws for rows that a call makes itself, of elements of several cells: make, copy, and what is kept beside them. -/
namespace Go.Proofs.YtdabcflpcklfiaaGreat
open Go.RowKit

/-- make([]T, n): a new row, each cell the zero value's. -/
theorem wpList_make_is {P : Program} (w : World) {ops : Array Oper} {rest : List Oper} {o : Oper} {a : Act} {Q : Exit → Act → World → Prop}
    (hg : o.guard = none) (l c : Operand) (t : TypeId) (hop : o.op = Op.makeSlice t l c)
    (e : TypeId) (i : TypeInfo) (z : Value) (size bytes : Nat) (h1 : P.underlying t = some (.slice e)) (h2 : P.info? e = some i) (h3 : i.zero = some z) (h4 : i.size = size) (h5 : i.bytes = bytes)
    (kl kc : IntKind) (L C : Int) (n : Nat) (hl : a.eval l = .int kl L) (hc : a.eval c = .int kc C) (hL : L = (n : Int)) (hC : C = (n : Int)) (b2 : bytes * n ≤ 281474976710656) (b3 : n ≤ 9223372036854775807)
    (f : Nat → Value) (hf : ∀ q, z.cells[q % z.cells.size]! = f q)
    (hK : ∀ w', w'.rowIs w.heap.size e (n * size) f → w.grownBy w' none → w'.heap.size = w.heap.size + 1 → wpList P ops Q rest (a.put o.dst (.slice (some ⟨w.heap.size, 0, none⟩) n n)) w') :
    wpList P ops Q (o :: rest) a w := by
  refine wpList_plain hg fun K hK' => ?_
  subst h4 h5
  have hb' : (i.bytes : Int) * (n : Int) ≤ 281474976710656 := by
    have h : ((i.bytes * n : Nat) : Int) ≤ 281474976710656 := by omega
    rwa [Int.natCast_mul] at h
  have hrun := run_make (P := P) w t e i z h1 h2 h3 kl kc n n (by omega) (Int.le_refl _) hb' (by omega)
  subst hL hC
  simp only [Int.toNat_natCast] at hrun
  unfold Oper.wp
  simp [execOp, hop, hl, hc, hrun, Result.andThen]
  refine hK' _ _ (hK _ ?_ (World.grownBy_alloc w _ none) (Deep.nblk_alloc _ _))
  have := World.rowIs_alloc w (madeCells z.cells (n * i.size)) e f (fun q hq => by
    simp only [size_madeCells] at hq
    rw [← hf q]
    simp [madeCells, hq])
  rwa [size_madeCells] at this

/-- copy(dst, src), dst a row of the call's own from its head, of elements of 'size' cells; src has no more elements than dst. -/
theorem wpList_copy_is {P : Program} (w : World) {ops : Array Oper} {rest : List Oper} {o : Oper} {a : Act} {Q : Exit → Act → World → Prop} (hgd : o.guard = none) (d s : Operand) (dT sT : TypeId)
    (ho : o.op = .call { callee := .builtin .copy, args := #[d, s], argTypes := #[dT, sT] }) (elem : TypeId) (i : TypeInfo) (size : Nat) (hu : P.underlying dT = some (.slice elem)) (hi : P.info? elem = some i) (hsz : i.size = size)
    (g dLen dCap : Nat) (sp : Option Addr) (sLen sCap : Nat) (hd : a.eval d = .slice (some ⟨g, 0, none⟩) dLen dCap) (hs : a.eval s = .slice sp sLen sCap)
    (t : TypeId) (m : Nat) (f : Nat → Value) (hrow : w.rowIs g t m f) (F : Nat → Value) (hle : sLen ≤ dLen) (hfit : sLen * size ≤ m)
    (hnone : 1 ≤ sLen → ∃ b off, sp = some ⟨b, off, none⟩ ∧ ∀ q, q < sLen * size → w.cell? ⟨b, off + q, none⟩ = some (F q)) (h1 : ∀ q, q < sLen * size → (F q).oneCell' = true)
    (h : ∀ w', w'.rowIs g t m (fun q => if q < sLen * size then F q else f q) → w.grownBy w' (some g) → w'.heap.size = w.heap.size → wpList P ops Q rest (a.put o.dst (.int .i64 (sLen : Int))) w') :
    wpList P ops Q (o :: rest) a w := by
  subst hsz
  refine wpList_plain hgd fun K hK => ?_
  obtain ⟨cur, hg, hcs, hcf⟩ := hrow
  by_cases h0 : sLen = 0
  · subst h0
    have hl : ∀ (x : Addr), (loadCells x 0).run P w = .ok #[] w := fun x => by simpa using run_loadCells_list (P := P) w x [] (by simp)
    unfold Oper.wp
    have hrun : (Builtin.copy_ #[dT, sT] o.type #[.slice (some ⟨g, 0, none⟩) dLen dCap, .slice sp 0 sCap]).run P w = .ok (goInt 0) w := by
      cases sp <;> simp [Builtin.copy_, run_underlying hu, Builtin.lenOf, Builtin.firstCells, sizeOf, typeInfo, hi, storeCells, hl]
    simp [execOp, ho, resolve, invoke, builtin, hd, hs, hrun, Result.andThen]
    refine hK _ _ (h w ⟨cur, hg, hcs, fun q hq => by simpa using hcf q hq⟩ (World.grownBy.refl _ _) rfl)
  · obtain ⟨b, off, rfl, hsrc⟩ := hnone (by omega)
    let cs : List Value := (List.range (sLen * i.size)).map F
    have hcl : cs.length = sLen * i.size := by simp [cs]
    have hcg : ∀ j v, cs[j]? = some v → w.cell? ((⟨b, off, none⟩ : Addr).add j) = some v := by
      intro j v hj
      have hjl := (List.getElem?_eq_some_iff.1 hj).1
      rw [hcl] at hjl
      have : v = F j := by
        simp [cs, hjl] at hj
        exact hj.symm
      rw [this, Addr.add_lit]
      exact hsrc j hjl
    have h1' : ∀ v ∈ cs, v.oneCell' = true := by
      intro v hv
      obtain ⟨q, hq, rfl⟩ := List.mem_map.1 hv
      exact h1 q (by simpa using hq)
    have hl := run_loadCells_list (P := P) w ⟨b, off, none⟩ cs hcg
    have hst := run_storeCells_at P g 0 t cs 0 cur w hg (by simp [hcl, hcs]; omega) h1'
    have hmin : Nat.min sLen dLen = sLen := Nat.min_eq_left hle
    have hrun : (Builtin.copy_ #[dT, sT] o.type #[.slice (some ⟨g, 0, none⟩) dLen dCap, .slice (some ⟨b, off, none⟩) sLen sCap]).run P w = .ok (goInt sLen) (w.setRow g (cur.toList.take 0 ++ cs ++ cur.toList.drop (0 + cs.length)).toArray) := by
      simp only [hcl] at hl
      have hst' : Sem.run P (storeCells ⟨g, 0, none⟩ cs) w = .ok () (w.setRow g (cs ++ cur.toList.drop cs.length).toArray) := by simpa using hst
      simp [Builtin.copy_, run_underlying hu, Builtin.lenOf, Builtin.firstCells, sizeOf, typeInfo, hi, hmin, hl, hst', Result.andThen]
    unfold Oper.wp
    simp [execOp, ho, resolve, invoke, builtin, hd, hs, hrun, Result.andThen]
    refine hK _ _ (h _ ⟨_, setRow_heap w g cur _ t _ hg, by simp [hcl, hcs]; omega, fun q hq => ?_⟩ ⟨rfl, rfl, rfl, by simp, fun k _ hk => setRow_other w g k _ (fun e => hk (by simp [e]))⟩ (by simp))
    rw [List.getElem?_toArray]
    show _ = some (if q < sLen * i.size then F q else f q)
    by_cases hq2 : q < sLen * i.size
    · rw [List.getElem?_append_left (by rw [hcl]; exact hq2), if_pos hq2]
      simp [cs, hq2]
    · rw [List.getElem?_append_right (by rw [hcl]; omega), if_neg hq2, List.getElem?_drop, hcl, show sLen * i.size + (q - sLen * i.size) = q by omega]
      simpa using hcf q hq
end Go.Proofs.YtdabcflpcklfiaaGreat

namespace Go.Proofs.YtdabcflpcklfiaaGreat
open Go.RowKit

theorem Tryz.info77 : (Tryz.prog.info? 77).map (fun i => (i.zero, i.size, i.bytes)) = some (some (.agg #[.int .i64 0, .int .i64 0, .int .i64 0, .slice none 0 0]), 4, 48) := by kernel_rfl
theorem Tryz.info86 : (Tryz.prog.info? 86).map (fun i => (i.zero, i.size, i.bytes)) = some (some (.agg #[.int .i64 0, .int .i64 0]), 2, 16) := by kernel_rfl
theorem Tryz.info75 : (Tryz.prog.info? 75).map (fun i => (i.zero, i.size, i.bytes)) = some (some (.slice none 0 0), 1, 24) := by kernel_rfl
theorem Tryz.info22 : (Tryz.prog.info? 22).map (fun i => (i.zero, i.size, i.bytes)) = some (some (.slice none 0 0), 1, 24) := by kernel_rfl

def zf (q : Nat) : Value := if q % 4 = 3 then .slice none 0 0 else .int .i64 0
def lfld (T : TD) (S : Nat → Nat) (q : Nat) : Value :=
  if q % 4 = 0 then .int .i64 (T.P (q / 4)) else if q % 4 = 1 then .int .i64 (T.D (q / 4)) else if q % 4 = 2 then .int .i64 (T.J (q / 4))
  else .slice (some ⟨S (q / 4), 0, none⟩) (T.L (q / 4)) (T.L (q / 4) + 1)
/-- Cells of the lent tasks when k of them have been laid. -/
def lf (T : TD) (S : Nat → Nat) (k q : Nat) : Value := if q < 4 * k then lfld T S q else zf q
/-- Cells of a lent program. -/
def pf (K N : Nat → Int) (q : Nat) : Value := if q % 2 = 0 then .int .i64 (K (q / 2)) else .int .i64 (N (q / 2))
def sf (K N : Nat → Int) (l q : Nat) : Value := if q < l * 2 then pf K N q else .int .i64 0

theorem zero_lf {T : TD} {S : Nat → Nat} (q : Nat) : ((Value.agg #[.int .i64 0, .int .i64 0, .int .i64 0, .slice none 0 0]).cells[q % (Value.agg #[.int .i64 0, .int .i64 0, .int .i64 0, .slice none 0 0]).cells.size]!) = lf T S 0 q := by
  have hs : (Value.agg #[.int .i64 0, .int .i64 0, .int .i64 0, .slice none 0 0]).cells = #[.int .i64 0, .int .i64 0, .int .i64 0, .slice none 0 0] := rfl
  rw [hs]
  unfold lf zf
  rw [if_neg (by omega)]
  have h : q % 4 = 0 ∨ q % 4 = 1 ∨ q % 4 = 2 ∨ q % 4 = 3 := by omega
  show (#[Value.int .i64 0, .int .i64 0, .int .i64 0, .slice none 0 0][q % 4]!) = _
  rcases h with h | h | h | h <;> rw [h] <;> rfl

def zero2 (_ : Nat) : Value := .int .i64 0
theorem zero_2 (q : Nat) : ((Value.agg #[.int .i64 0, .int .i64 0]).cells[q % (Value.agg #[.int .i64 0, .int .i64 0]).cells.size]!) = zero2 q := by
  have hs : (Value.agg #[.int .i64 0, .int .i64 0]).cells = #[.int .i64 0, .int .i64 0] := rfl
  rw [hs]
  have h : q % 2 = 0 ∨ q % 2 = 1 := by omega
  show (#[Value.int .i64 0, .int .i64 0][q % 2]!) = _
  rcases h with h | h <;> rw [h] <;> rfl

theorem lf_zero {T : TD} {S : Nat → Nat} {k q : Nat} (h : 4 * k ≤ q) : lf T S k q = zf q := by unfold lf; rw [if_neg (by omega)]

def allOf (T : TD) (S : Nat → Nat) (k : Nat) : List Value := (List.range k).map fun j => Value.slice (some ⟨S j, 0, none⟩) (T.L j + 1) (T.L j + 1)

structure LentInv (B n k : Nat) (T : TD) (S : Nat → Nat) (v : Value) (w wr : World) : Prop where
  below : Below B w wr
  lrow : wr.rowIs B 77 ((n + 1) * 4) (lf T S k)
  srow : ∀ j, j < k → wr.rowIs (S j) 86 ((T.L j + 1) * 2) (sf (T.K j) (T.N j) (T.L j))
  sgt : ∀ j, j < k → B < S j
  sord : ∀ i j, i < j → j < k → S i < S j
  own : wr.ownsRow (B + 1) 75 1 v k (allOf T S k)

theorem prog_cells {w : World} {ao : Option Addr} {pl : Nat} {K N : Nat → Int} (h : ProgAt w ao pl K N) :
    1 ≤ pl → ∃ b off, ao = some ⟨b, off, none⟩ ∧ ∀ q, q < pl * 2 → w.cell? ⟨b, off + q, none⟩ = some (pf K N q) := by
  intro h1
  obtain ⟨b, off, e, hb, hs⟩ := h.2 h1
  refine ⟨b, off, e, fun q hq => ?_⟩
  obtain ⟨s0, s1⟩ := hs (q / 2) (by omega)
  unfold pf
  by_cases h2 : q % 2 = 0
  · rw [if_pos h2, ← s0]; congr 2; omega
  · rw [if_neg h2, ← s1]; congr 2; omega

theorem pf_one {K N : Nat → Int} (q : Nat) : (pf K N q).oneCell' = true := by unfold pf; split <;> rfl

theorem lent_mid {B n k : Nat} {T : TD} {S : Nat → Nat} {v : Value} {w wr w2 : World} {p0 p1 p2 p3 : Value} {q0 q1 q2 q3 : Nat} (hinv : LentInv B n k T S v w wr)
    (hg : ((((wr.setCell ⟨B, q0, none⟩ p0).setCell ⟨B, q1, none⟩ p1).setCell ⟨B, q2, none⟩ p2).setCell ⟨B, q3, none⟩ p3).grownBy w2 none) :
    Below B w w2 ∧ w2.rowIs B 77 ((n + 1) * 4) (fun j => if j = q3 then p3 else if j = q2 then p2 else if j = q1 then p1 else if j = q0 then p0 else lf T S k j) ∧
    (∀ j, j < k → w2.rowIs (S j) 86 ((T.L j + 1) * 2) (sf (T.K j) (T.N j) (T.L j))) ∧ w2.ownsRow (B + 1) 75 1 v k (allOf T S k) := by
  have hlt := hinv.lrow.lt
  have hsz : ∀ (x : World) (a : Addr) (u : Value), (x.setCell a u).heap.size = x.heap.size := fun x a u => Deep.nblk_setCell x a u
  refine ⟨?_, ?_, ?_, ?_⟩
  · refine Below.grown ?_ hg (by simp only [hsz]; omega) (fun k hk => by cases hk)
    exact (((hinv.below.setCell (Nat.le_refl _) _).setCell (Nat.le_refl _) _).setCell (Nat.le_refl _) _).setCell (Nat.le_refl _) _
  · refine World.rowIs.of_block ((((hinv.lrow.set q0 p0).set q1 p1).set q2 p2).set q3 p3) (hg.block B (by simp only [hsz]; omega) (by simp))
  · intro j hj
    have hs := hinv.srow j hj
    have hn : S j ≠ B := by have := hinv.sgt j hj; omega
    exact World.rowIs.of_block ((((hs.setOther (by exact hn) _).setOther (by exact hn) _).setOther (by exact hn) _).setOther (by exact hn) _) (hg.block _ (by simp only [hsz]; exact hs.lt) (by simp))
  · have ho := ownsRow_setCell_below (ownsRow_setCell_below (ownsRow_setCell_below (ownsRow_setCell_below hinv.own (a := ⟨B, q0, none⟩) (Nat.lt_succ_self _) p0) (a := ⟨B, q1, none⟩) (Nat.lt_succ_self _) p1) (a := ⟨B, q2, none⟩) (Nat.lt_succ_self _) p2) (a := ⟨B, q3, none⟩) (Nat.lt_succ_self _) p3
    exact ho.kept hg (by cases v.ownBlock <;> simp)

theorem own_ne {w : World} {base e size : Nat} {v : Value} {n : Nat} {xs : List Value} {g : Nat} (h : w.ownsRow base e size v n xs) (hg : w.heap.size ≤ g) : v.ownBlock = none ∨ v.ownBlock ≠ some g := by
  cases hv : v.ownBlock with
  | none => exact .inl rfl
  | some k =>
    refine .inr (fun e => ?_)
    have := (h.lt k hv).2
    simp at e
    omega

theorem own_type {w : World} {base e size : Nat} {v : Value} {n : Nat} {xs : List Value} {b t m : Nat} {f : Nat → Value} (h : w.ownsRow base e size v n xs) (hr : w.rowIs b t m f) (hne : t ≠ e) : some b ≠ v.ownBlock := by
  intro hv
  rcases h.2 with ⟨rfl, _⟩ | ⟨g, cap, cur, rfl, _, hg, _⟩
  · simp [Value.ownBlock] at hv
  · simp [Value.ownBlock] at hv
    subst hv
    obtain ⟨c, hc, _⟩ := hr
    rw [hc] at hg
    simp at hg
    exact hne hg.2

theorem allOf_succ (T : TD) (S : Nat → Nat) (k g : Nat) : allOf T S k ++ [Value.slice (some ⟨g, 0, none⟩) (T.L k + 1) (T.L k + 1)] = allOf T (fun j => if j = k then g else S j) (k + 1) := by
  unfold allOf
  rw [List.range_succ, List.map_append]
  congr 1
  · apply List.map_congr_left
    intro j hj
    have : j ≠ k := by have := List.mem_range.1 hj; omega
    simp [this]
  · simp

theorem lent_step {n k : Nat} {T : TD} {S : Nat → Nat} {v v5 : Value} {w wr w2 w3 w5 : World} {A0 : Value} (hlt : k < n) (hinv : LentInv w.heap.size n k T S v w wr)
    (hg2 : ((((wr.setCell ⟨w.heap.size, k * 4, none⟩ (.int .i64 (T.P k))).setCell ⟨w.heap.size, k * 4 + 1, none⟩ (.int .i64 (T.D k))).setCell ⟨w.heap.size, k * 4 + 2, none⟩ (.int .i64 (T.J k))).setCell ⟨w.heap.size, k * 4 + 3, none⟩ A0).grownBy w2 none)
    (hg3 : w2.grownBy w3 (some wr.heap.size)) (hr3 : w3.rowIs wr.heap.size 86 ((T.L k + 1) * 2) (sf (T.K k) (T.N k) (T.L k))) (hs2 : w2.heap.size = wr.heap.size + 1) (hs3 : w3.heap.size = w2.heap.size)
    {o : Obj} (hown5 : w5.ownsRow (w.heap.size + 1) 75 1 v5 (k + 1) (allOf T S k ++ [Value.slice (some ⟨wr.heap.size, 0, none⟩) (T.L k + 1) (T.L k + 1)])) (hg5 : (w3.alloc o).grownBy w5 v.ownBlock) :
    (w5.cell? ⟨w.heap.size, k * 4 + 3, none⟩ = some A0 ∧ ∀ q, w5.frozen? ⟨w.heap.size, q, none⟩ = false) ∧
    LentInv w.heap.size n (k + 1) T (fun j => if j = k then wr.heap.size else S j) v5 w (w5.setCell ⟨w.heap.size, k * 4 + 3, none⟩ (.slice (some ⟨wr.heap.size, 0, none⟩) (T.L k) (T.L k + 1))) := by
  obtain ⟨hb2, hl2, hs22, ho2⟩ := lent_mid hinv hg2
  have hBlt : w.heap.size < wr.heap.size := hinv.lrow.lt
  have ho3 := ho2.kept hg3 (own_ne hinv.own (Nat.le_refl _))
  have ho4 := ho3.alloc o
  have hl3 := hl2.of_block (hg3.block _ (by omega) (by simp; omega))
  have hl4 := hl3.alloc o
  have hl5 := hl4.of_block (hg5.block _ hl4.lt (own_type ho4 hl4 (by decide)))
  have hk4 := hr3.alloc o
  have hk5 := hk4.of_block (hg5.block _ hk4.lt (own_type ho4 hk4 (by decide)))
  have hs5 : ∀ j, j < k → w5.rowIs (S j) 86 ((T.L j + 1) * 2) (sf (T.K j) (T.N j) (T.L j)) := by
    intro j hj
    have hj2 := hs22 j hj
    have hjlt : S j < wr.heap.size := (hinv.srow j hj).lt
    have hj3 := hj2.of_block (hg3.block _ hj2.lt (by simp; omega))
    have hj4 := hj3.alloc o
    exact hj4.of_block (hg5.block _ hj4.lt (own_type ho4 hj4 (by decide)))
  refine ⟨⟨?_, fun q => hl5.frozen q⟩, ?_, ?_, ?_, ?_, ?_, ?_⟩
  · rw [hl5.cell (by omega)]; simp
  · have hb3 : Below w.heap.size w w3 := hb2.grown hg3 (by omega) (fun q hq => by cases hq; omega)
    have hb4 : Below w.heap.size w (w3.alloc o) := hb3.alloc (by omega) o
    have hb5 : Below w.heap.size w w5 := hb4.grown hg5 (by simp; omega) (fun q hq => by have := (hinv.own.lt q hq).1; omega)
    exact hb5.setCell (Nat.le_refl _) _
  · refine (hl5.set (k * 4 + 3) _).congr (fun q hq => ?_)
    simp only [lf, lfld]
    by_cases q3 : q = k * 4 + 3
    · subst q3
      have e1 : (k * 4 + 3) / 4 = k := by omega
      have e2 : (k * 4 + 3) % 4 = 3 := by omega
      rw [if_pos rfl, if_pos (by omega), e1, e2]
      simp
    · rw [if_neg q3, if_neg q3]
      by_cases q2 : q = k * 4 + 2
      · subst q2
        have e1 : (k * 4 + 2) / 4 = k := by omega
        have e2 : (k * 4 + 2) % 4 = 2 := by omega
        rw [if_pos rfl, if_pos (by omega), e1, e2]
        simp
      · rw [if_neg q2]
        by_cases q1 : q = k * 4 + 1
        · subst q1
          have e1 : (k * 4 + 1) / 4 = k := by omega
          have e2 : (k * 4 + 1) % 4 = 1 := by omega
          rw [if_pos rfl, if_pos (by omega), e1, e2]
          simp
        · rw [if_neg q1]
          by_cases q0 : q = k * 4
          · subst q0
            have e1 : k * 4 / 4 = k := by omega
            have e2 : k * 4 % 4 = 0 := by omega
            rw [if_pos rfl, if_pos (by omega), e1, e2]
            simp
          · rw [if_neg q0]
            by_cases hq4 : q < 4 * k
            · rw [if_pos hq4, if_pos (show q < 4 * (k + 1) by omega)]
              have : q / 4 ≠ k := by omega
              simp only [this, if_false]
            · rw [if_neg hq4, if_neg (by omega)]
  · intro j hj
    by_cases e : j = k
    · subst e
      simp only [if_true]
      exact hk5.setOther (by show _ ≠ w.heap.size; omega) _
    · simp only [e, if_false]
      exact (hs5 j (by omega)).setOther (by have := hinv.sgt j (by omega); show _ ≠ w.heap.size; omega) _
  · intro j hj
    by_cases e : j = k
    · simp only [e, if_true]; exact hBlt
    · simp only [e, if_false]; exact hinv.sgt j (by omega)
  · intro i j hij hj
    have hi : i ≠ k := by omega
    by_cases e : j = k
    · simp only [e, hi, if_true, if_false]; exact (hinv.srow i (by omega)).lt
    · simp only [e, hi, if_false]; exact hinv.sord i j hij (by omega)
  · rw [← allOf_succ]
    exact ownsRow_setCell_below hown5 (Nat.lt_succ_self _) _

set_option maxRecDepth 100000 in
set_option maxHeartbeats 1000000 in
theorem lent_some (b off n cap : Nat) (T : TD) (w : World) (h1 : 1 ≤ n) (hn : n * 48 ≤ 140737488351232) (hL : ∀ i, i < n → T.L i * 16 ≤ 140737488351232) (hb : b < w.heap.size) (hT : TasksAt w b off n T) :
    Calls Tryz.prog 16 #[.slice (some ⟨b, off, none⟩) n cap] w fun e w' => ∃ S v, e = .returned (.tuple #[.slice (some ⟨w.heap.size, 0, none⟩) (n + 1) (n + 1), v]) ∧ LentInv w.heap.size n n T S v w w' := by
  obtain ⟨i7, hi7, hz70, hz71, hz72⟩ := info_parts Tryz.info77
  obtain ⟨i5, hi5, hz50, hz51, hz52⟩ := info_parts Tryz.info86
  obtain ⟨i4, hi4, hz40, hz41, hz42⟩ := info_parts Tryz.info75
  have HT : Hid (TasksAt w b off n T) := hT
  clear hT
  go_enter Tryz.func16, Tryz.ntmps16
  go_wp2_with (at_make; refine wpList_make_is _ rfl _ _ 22 rfl 77 i7 _ 4 48 Tryz.underlying22 hi7 hz70 hz71 hz72 _ _ _ _ (n + 1) rfl rfl (by omega) (by omega) (by omega) (by omega) (lf T (fun _ => 0) 0) zero_lf ?_)
  intro w1 hr1 hg1 hs1
  have hb1 : Below w.heap.size w w1 := (Below.refl _ _).grown hg1 (Nat.le_refl _) (fun k hk => by cases hk)
  clear hg1
  have h0 : LentInv w.heap.size n 0 T (fun _ => 0) (.slice none 0 0) w w1 := ⟨hb1, hr1, fun j hj => by omega, fun j hj => by omega, fun i j _ hj => by omega, World.ownsRow_nil _ _ _ _⟩
  clear hr1 hs1 hb1
  go_wp2
  go_loopw [5, 6] (fun v i wr => ∃ (k : Nat) (S : Nat → Nat), k ≤ n ∧ i = .int .i64 k ∧ LentInv w.heap.size n k T S v w wr)
    (fun _ i _ => n - (intOf i).toNat)
  case atStart => exact ⟨0, _, Nat.zero_le _, rfl, h0⟩
  case round =>
    obtain ⟨k, S, hk, rfl, hinv⟩ := hrel
    clear h0
    have hsz : w.heap.size < wr.heap.size := hinv.lrow.lt
    have hbwr : b < wr.heap.size := by omega
    have hbne : b ≠ w.heap.size := by omega
    by_cases hlt : k < n
    · obtain ⟨c0, c1, c2, c3, hp⟩ := HT.out k hlt
      have d0 : wr.cell? ⟨b, off + k * 4, none⟩ = some (.int .i64 (T.P k)) := (hinv.below.cell (by exact hb)).trans c0
      have d1 : wr.cell? ⟨b, off + k * 4 + 1, none⟩ = some (.int .i64 (T.D k)) := (hinv.below.cell (by exact hb)).trans c1
      have d2 : wr.cell? ⟨b, off + k * 4 + 2, none⟩ = some (.int .i64 (T.J k)) := (hinv.below.cell (by exact hb)).trans c2
      have d3 : wr.cell? ⟨b, off + k * 4 + 3, none⟩ = some (.slice (T.A k) (T.L k) (T.C k)) := (hinv.below.cell (by exact hb)).trans c3
      have HP : Hid _ := hp
      clear c0 c1 c2 c3 hp
      have l0 : wr.cell? ⟨w.heap.size, k * 4, none⟩ = some (.int .i64 0) := (hinv.lrow.cell (by omega)).trans (by rw [lf_zero (by omega)]; simp [zf])
      have l1 : wr.cell? ⟨w.heap.size, k * 4 + 1, none⟩ = some (.int .i64 0) := (hinv.lrow.cell (by omega)).trans (by rw [lf_zero (by omega)]; unfold zf; rw [if_neg (by omega)])
      have l2 : wr.cell? ⟨w.heap.size, k * 4 + 2, none⟩ = some (.int .i64 0) := (hinv.lrow.cell (by omega)).trans (by rw [lf_zero (by omega)]; unfold zf; rw [if_neg (by omega)])
      have l3 : wr.cell? ⟨w.heap.size, k * 4 + 3, none⟩ = some (.slice none 0 0) := (hinv.lrow.cell (by omega)).trans (by rw [lf_zero (by omega)]; unfold zf; rw [if_pos (by omega)])
      have lz : ∀ q, wr.frozen? ⟨w.heap.size, q, none⟩ = false := fun q => hinv.lrow.frozen q
      have hLk := hL k hlt
      go_wp2_with (at_make; refine wpList_make_is _ rfl _ _ 75 rfl 86 i5 _ 2 16 Tryz.underlying75 hi5 hz50 hz51 hz52 _ _ _ _ (T.L k + 1) rfl rfl (by omega) (by omega) (by omega) (by omega) zero2 zero_2 ?_)
      intro w2 hr2 hg2 hs2
      have hinv2 := lent_mid hinv hg2
      have e3 : w2.cell? ⟨b, off + k * 4 + 3, none⟩ = some (.slice (T.A k) (T.L k) (T.C k)) := (hinv2.1.cell (by exact hb)).trans ((hinv.below.cell (by exact hb)).symm.trans d3)
      have HG2 : Hid _ := hg2
      have HR2 : Hid _ := hr2
      have HPR : Hid (ProgAt w2 (T.A k) (T.L k) (T.K k) (T.N k)) := ProgAt.below HP.out hinv2.1
      clear hg2 hr2 d0 d1 d2 d3 l0 l1 l2 l3 lz
      have hbw2 : b < w2.heap.size := by omega
      have HS2 : Hid (w2.heap.size = wr.heap.size + 1) := hs2
      clear hs2
      go_wp2_with (refine wpList_copy_is _ rfl _ _ 75 75 rfl 86 i5 2 Tryz.underlying75 hi5 hz51 wr.heap.size _ _ _ _ _ rfl rfl 86 ((T.L k + 1) * 2) zero2 HR2.out (pf (T.K k) (T.N k)) (by omega) (by omega) (prog_cells HPR.out) (fun q _ => pf_one q) ?_)
      intro w3 hr3 hg3 hs3
      have HR3 : Hid (w3.rowIs wr.heap.size 86 ((T.L k + 1) * 2) (sf (T.K k) (T.N k) (T.L k))) := hr3
      have HG3 : Hid _ := hg3
      have HS3 : Hid _ := hs3
      have hown3 := hinv2.2.2.2.kept hg3 (own_ne hinv.own (Nat.le_refl _))
      have hz3 : wr.heap.size < w3.heap.size := by rw [HS3.out, HS2.out]; omega
      clear hr3 hg3 hs3
      go_wp2_with (at_builtin; refine wpList_append_own _ rfl _ _ 29 rfl (w.heap.size + 1) 75 i4 (.slice none 0 0) 1 24 Tryz.underlying29 hi4 hz40 hz41 hz42 rfl (by decide) _ _ _ rfl (hown3.alloc _) ⟨w3.heap.size, 0, none⟩ 1 1 [.slice (some ⟨wr.heap.size, 0, none⟩) (T.L k + 1) (T.L k + 1)] rfl rfl ?c1 ?c2 ?c3 ?c4 ?c5 ?_)
      case c1 => exact cell_one_at _ _ rfl _ _
      case c2 => exact one_oneCell rfl
      case c3 => unfold maxLen; omega
      case c4 => omega
      case c5 => simp; omega
      · intro v5 w5 hown5 hg5 _
        obtain ⟨hlast, hstep⟩ := lent_step hlt hinv HG2.out HG3.out HR3.out HS2.out HS3.out hown5 hg5
        have HSTEP : Hid _ := hstep
        clear hstep hown5 hg5 hown3 hinv2
        have lz : ∀ q, w5.frozen? ⟨w.heap.size, q, none⟩ = false := fun q => hlast.2 q
        have l3 := hlast.1
        clear hlast
        go_wp2
        go_roundw
        case rel => exact ⟨k + 1, _, by omega, by go_num, HSTEP.out⟩
        case measure => simp [intOf]; omega
    · obtain rfl : k = n := by omega
      have HI : Hid _ := hinv
      clear hinv
      go_wp2
      go_ret2
      exact ⟨S, _, rfl, HI.out⟩

set_option maxHeartbeats 400000 in
theorem lent_none (ao : Option Addr) (cap : Nat) (T : TD) (w : World) :
    Calls Tryz.prog 16 #[.slice ao 0 cap] w fun e w' => ∃ S v, e = .returned (.tuple #[.slice (some ⟨w.heap.size, 0, none⟩) (0 + 1) (0 + 1), v]) ∧ LentInv w.heap.size 0 0 T S v w w' := by
  obtain ⟨i7, hi7, hz70, hz71, hz72⟩ := info_parts Tryz.info77
  go_enter Tryz.func16, Tryz.ntmps16
  go_wp2_with (at_make; refine wpList_make_is _ rfl _ _ 22 rfl 77 i7 _ 4 48 Tryz.underlying22 hi7 hz70 hz71 hz72 _ _ _ _ (0 + 1) rfl rfl (by omega) (by omega) (by omega) (by omega) (lf T (fun _ => 0) 0) zero_lf ?_)
  intro w1 hr1 hg1 hs1
  have hb1 : Below w.heap.size w w1 := (Below.refl _ _).grown hg1 (Nat.le_refl _) (fun k hk => by cases hk)
  clear hg1
  have h0 : LentInv w.heap.size 0 0 T (fun _ => 0) (.slice none 0 0) w w1 := ⟨hb1, hr1, fun j hj => by omega, fun j hj => by omega, fun i j _ hj => by omega, World.ownsRow_nil _ _ _ _⟩
  have HI : Hid _ := h0
  clear hr1 hs1 hb1 h0
  go_wp2
  refine wp_loop_rounds 1 ?_
  rw [rounds_succ]
  go_wp2
  go_ret2
  exact ⟨_, _, rfl, HI.out⟩
end Go.Proofs.YtdabcflpcklfiaaGreat

namespace Go.Proofs.YtdabcflpcklfiaaGreat
open Go.RowKit

def neg7 (_ : Nat) : Value := .int .i64 (-7)

/-- The law's own record: nine fields, of which two grow here. -/
def wf9 (vs vt : Value) (F : Nat → Value) (q : Nat) : Value := if q = 6 then vs else if q = 7 then vt else F q

theorem rows_ne {w : World} {a b s t m n : Nat} {f g : Nat → Value} (h : w.rowIs a s m f) (k : w.rowIs b t n g) (hne : s ≠ t) : a ≠ b := by
  rintro rfl
  obtain ⟨c, hc, _⟩ := h
  obtain ⟨d, hd, _⟩ := k
  rw [hc] at hd
  simp at hd
  exact hne hd.2

theorem own_setOther {w : World} {base e size : Nat} {v : Value} {n : Nat} {xs : List Value} {b t m i : Nat} {f : Nat → Value} (h : w.ownsRow base e size v n xs) (hr : w.rowIs b t m f) (hne : t ≠ e) (u : Value) : (w.setCell ⟨b, i, none⟩ u).ownsRow base e size v n xs := by
  have hb := own_type h hr hne
  refine h.kept (row := some b) ⟨rfl, rfl, rfl, by rw [Deep.nblk_setCell]; exact Nat.le_refl _, fun k _ hk => Deep.blk_setCell_other _ _ _ _ (fun e => hk (by rw [e]))⟩ ?_
  exact .inr (fun e => hb e.symm)

variable {B0 n m Lb Wb ba b2 ns nt : Nat} {T : TD} {S : Nat → Nat} {v vs vt : Value} {F LF : Nat → Value} {G : Nat → Nat → Value} {xs ys : List Value} {w wr : World}

theorem own_slice {w : World} {base e size : Nat} {v : Value} {n : Nat} {xs : List Value} (h : w.ownsRow base e size v (n + 1) xs) : ∃ g cap, v = .slice (some ⟨g, 0, none⟩) (n + 1) cap := by
  rcases h.2 with ⟨_, h0⟩ | ⟨g, cap, _, hv, _⟩
  · omega
  · exact ⟨g, cap, hv⟩

end Go.Proofs.YtdabcflpcklfiaaGreat
