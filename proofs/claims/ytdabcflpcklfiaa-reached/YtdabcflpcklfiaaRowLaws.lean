/- Laws for rows that a call makes itself, of elements of several cells: make, copy, and what is kept beside them. -/
import Derived.WalkKit
import Derived.WalkSpells
import Derived.WalkLawsBesides
import Derived.Deep.OwnRows
import Derived.Laws.CopyRow
namespace Go.Proofs.Ytdabcflpcklfiaa
open Go.RowKit

theorem mod_getElem! (z : Array Value) (i : Nat) : (z[i % z.size]!) = z[i % z.size]! := rfl

/-- make([]T, n): a new row, each cell the zero value's. -/
theorem wpList_make_is {P : Program} (w : World) {ops : Array Oper} {rest : List Oper} {o : Oper} {a : Act} {Q : Exit → Act → World → Prop}
    (hg : o.guard = none) (l c : Operand) (t : TypeId) (hop : o.op = Op.makeSlice t l c)
    (e : TypeId) (i : TypeInfo) (z : Value) (size bytes : Nat) (h1 : P.underlying t = some (.slice e)) (h2 : P.info? e = some i) (h3 : i.zero = some z) (h4 : i.size = size) (h5 : i.bytes = bytes)
    (kl kc : IntKind) (L C : Int) (n : Nat) (hl : a.eval l = .int kl L) (hc : a.eval c = .int kc C) (hL : L = (n : Int)) (hC : C = (n : Int)) (b2 : bytes * n ≤ 281474976710656) (b3 : n ≤ 9223372036854775807)
    (f : Nat → Value) (hf : ∀ q, z.cells[q % z.cells.size]! = f q)
    (hK : ∀ w', w'.rowIs w.heap.size e (n * size) f → w.grownBy w' none → w'.heap.size = w.heap.size + 1 → wpList P ops Q rest (a.put o.dst (.slice (some ⟨w.heap.size, 0, none⟩) n n)) w') :
    wpList P ops Q (o :: rest) a w := by
  refine wpList_plain hg fun K hK' => ?_
  subst h4 h5
  have hb' : (i.bytes : Int) * (n : Int) ≤ 281474976710656 := by
    have h : ((i.bytes * n : Nat) : Int) ≤ 281474976710656 := by omega
    rwa [Int.natCast_mul] at h
  have hrun := run_make (P := P) w t e i z h1 h2 h3 kl kc n n (by omega) (Int.le_refl _) hb' (by omega)
  subst hL hC
  simp only [Int.toNat_natCast] at hrun
  unfold Oper.wp
  simp [execOp, hop, hl, hc, hrun, Result.andThen]
  refine hK' _ _ (hK _ ?_ (World.grownBy_alloc w _ none) (Deep.nblk_alloc _ _))
  have := World.rowIs_alloc w (madeCells z.cells (n * i.size)) e f (fun q hq => by
    simp only [size_madeCells] at hq
    rw [← hf q]
    simp [madeCells, hq])
  rwa [size_madeCells] at this

/-- copy(dst, src), dst a row of the call's own from its head, of elements of 'size' cells; src has no more elements than dst. -/
theorem wpList_copy_is {P : Program} (w : World) {ops : Array Oper} {rest : List Oper} {o : Oper} {a : Act} {Q : Exit → Act → World → Prop} (hgd : o.guard = none) (d s : Operand) (dT sT : TypeId)
    (ho : o.op = .call { callee := .builtin .copy, args := #[d, s], argTypes := #[dT, sT] }) (elem : TypeId) (i : TypeInfo) (size : Nat) (hu : P.underlying dT = some (.slice elem)) (hi : P.info? elem = some i) (hsz : i.size = size)
    (g dLen dCap : Nat) (sp : Option Addr) (sLen sCap : Nat) (hd : a.eval d = .slice (some ⟨g, 0, none⟩) dLen dCap) (hs : a.eval s = .slice sp sLen sCap)
    (t : TypeId) (m : Nat) (f : Nat → Value) (hrow : w.rowIs g t m f) (F : Nat → Value) (hle : sLen ≤ dLen) (hfit : sLen * size ≤ m)
    (hnone : 1 ≤ sLen → ∃ b off, sp = some ⟨b, off, none⟩ ∧ ∀ q, q < sLen * size → w.cell? ⟨b, off + q, none⟩ = some (F q)) (h1 : ∀ q, q < sLen * size → (F q).oneCell' = true)
    (h : ∀ w', w'.rowIs g t m (fun q => if q < sLen * size then F q else f q) → w.grownBy w' (some g) → w'.heap.size = w.heap.size → wpList P ops Q rest (a.put o.dst (.int .i64 (sLen : Int))) w') :
    wpList P ops Q (o :: rest) a w := by
  subst hsz
  refine wpList_plain hgd fun K hK => ?_
  obtain ⟨cur, hg, hcs, hcf⟩ := hrow
  by_cases h0 : sLen = 0
  · subst h0
    have hl : ∀ (x : Addr), (loadCells x 0).run P w = .ok #[] w := fun x => by simpa using run_loadCells_list (P := P) w x [] (by simp)
    unfold Oper.wp
    have hrun : (Builtin.copy_ #[dT, sT] o.type #[.slice (some ⟨g, 0, none⟩) dLen dCap, .slice sp 0 sCap]).run P w = .ok (goInt 0) w := by
      cases sp <;> simp [Builtin.copy_, run_underlying hu, Builtin.lenOf, Builtin.firstCells, sizeOf, typeInfo, hi, storeCells, hl]
    simp [execOp, ho, resolve, invoke, builtin, hd, hs, hrun, Result.andThen]
    refine hK _ _ (h w ⟨cur, hg, hcs, fun q hq => by simpa using hcf q hq⟩ (World.grownBy.refl _ _) rfl)
  · obtain ⟨b, off, rfl, hsrc⟩ := hnone (by omega)
    let cs : List Value := (List.range (sLen * i.size)).map F
    have hcl : cs.length = sLen * i.size := by simp [cs]
    have hcg : ∀ j v, cs[j]? = some v → w.cell? ((⟨b, off, none⟩ : Addr).add j) = some v := by
      intro j v hj
      have hjl := (List.getElem?_eq_some_iff.1 hj).1
      rw [hcl] at hjl
      have : v = F j := by
        simp [cs, hjl] at hj
        exact hj.symm
      rw [this, Addr.add_lit]
      exact hsrc j hjl
    have h1' : ∀ v ∈ cs, v.oneCell' = true := by
      intro v hv
      obtain ⟨q, hq, rfl⟩ := List.mem_map.1 hv
      exact h1 q (by simpa using hq)
    have hl := run_loadCells_list (P := P) w ⟨b, off, none⟩ cs hcg
    have hst := run_storeCells_at P g 0 t cs 0 cur w hg (by simp [hcl, hcs]; omega) h1'
    have hmin : Nat.min sLen dLen = sLen := Nat.min_eq_left hle
    have hrun : (Builtin.copy_ #[dT, sT] o.type #[.slice (some ⟨g, 0, none⟩) dLen dCap, .slice (some ⟨b, off, none⟩) sLen sCap]).run P w = .ok (goInt sLen) (w.setRow g (cur.toList.take 0 ++ cs ++ cur.toList.drop (0 + cs.length)).toArray) := by
      simp only [hcl] at hl
      have hst' : Sem.run P (storeCells ⟨g, 0, none⟩ cs) w = .ok () (w.setRow g (cs ++ cur.toList.drop cs.length).toArray) := by simpa using hst
      simp [Builtin.copy_, run_underlying hu, Builtin.lenOf, Builtin.firstCells, sizeOf, typeInfo, hi, hmin, hl, hst', Result.andThen]
    unfold Oper.wp
    simp [execOp, ho, resolve, invoke, builtin, hd, hs, hrun, Result.andThen]
    refine hK _ _ (h _ ⟨_, setRow_heap w g cur _ t _ hg, by simp [hcl, hcs]; omega, fun q hq => ?_⟩ ⟨rfl, rfl, rfl, by simp, fun k _ hk => setRow_other w g k _ (fun e => hk (by simp [e]))⟩ (by simp))
    rw [List.getElem?_toArray]
    show _ = some (if q < sLen * i.size then F q else f q)
    by_cases hq2 : q < sLen * i.size
    · rw [List.getElem?_append_left (by rw [hcl]; exact hq2), if_pos hq2]
      simp [cs, hq2]
    · rw [List.getElem?_append_right (by rw [hcl]; omega), if_neg hq2, List.getElem?_drop, hcl, show sLen * i.size + (q - sLen * i.size) = q by omega]
      simpa using hcf q hq
end Go.Proofs.Ytdabcflpcklfiaa
