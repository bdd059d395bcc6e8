import Derived.Test.YtdabcflpcklfiaaProg
import Derived.Test.YtdabcflpcklfiaaMach
import Derived.WalkKit
import Derived.WalkSpells
import Derived.WalkLawsBesides
import Derived.BigQuiet
import Derived.Deep.QuietTactic
import Derived.Deep.OwnRows
import Derived.Deep.RegionWith
import Derived.Maps.OwnSet
import Derived.Maps.Views
import Derived.DeepKeys4
/- Where a kernel lies in memory, and what a call leaves alone. -/
namespace Go.Proofs.Ytdabcflpcklfiaa
open Go.RowKit

/-- Nothing has turned but the blocks of X and new ones. -/
structure Fr (X : Nat → Prop) (w w' : World) : Prop where
  os : w'.os = w.os
  tape : w'.tape = w.tape
  output : w'.output = w.output
  size : w.heap.size ≤ w'.heap.size
  block : ∀ b, b < w.heap.size → ¬ X b → w'.heap[b]? = w.heap[b]?

theorem Fr.refl (X : Nat → Prop) (w : World) : Fr X w w := ⟨rfl, rfl, rfl, Nat.le_refl _, fun _ _ _ => rfl⟩

theorem Fr.trans {X X' : Nat → Prop} {a b c : World} (h : Fr X a b) (k : Fr X' b c) (hx : ∀ i, X' i → X i ∨ a.heap.size ≤ i) : Fr X a c :=
  ⟨k.os.trans h.os, k.tape.trans h.tape, k.output.trans h.output, Nat.le_trans h.size k.size, fun i hi hn => (k.block i (Nat.lt_of_lt_of_le hi h.size) (fun hX => by rcases hx i hX with h1 | h1; exact hn h1; omega)).trans (h.block i hi hn)⟩

theorem Fr.then {X : Nat → Prop} {a b c : World} (h : Fr X a b) (k : Fr X b c) : Fr X a c := h.trans k (fun _ hi => .inl hi)

theorem Fr.mono {X X' : Nat → Prop} {a b : World} (h : Fr X a b) (hx : ∀ i, X i → X' i) : Fr X' a b := ⟨h.os, h.tape, h.output, h.size, fun i hi hn => h.block i hi (fun hX => hn (hx i hX))⟩

theorem Fr.of_below {w w' : World} (X : Nat → Prop) (h : Below w.heap.size w w') : Fr X w w' := ⟨h.os, h.tape, h.output, h.size, fun i hi _ => h.block i hi⟩

theorem Fr.below {X : Nat → Prop} {B : Nat} {w w' : World} (h : Fr X w w') (hB : B ≤ w.heap.size) (hx : ∀ i, X i → B ≤ i) : Below B w w' :=
  ⟨h.os, h.tape, h.output, h.size, fun i hi => h.block i (by omega) (fun hX => by have := hx i hX; omega)⟩

theorem Fr.setCell {X : Nat → Prop} {w w' : World} (h : Fr X w w') {a : Addr} (ha : X a.block ∨ w.heap.size ≤ a.block) (v : Value) : Fr X w (w'.setCell a v) :=
  ⟨h.os, h.tape, h.output, by simpa using h.size, fun i hi hn => (Deep.blk_setCell_other _ _ _ _ (fun e => by rcases ha with h1 | h1; exact hn (e ▸ h1); omega)).trans (h.block i hi hn)⟩

theorem Fr.alloc {X : Nat → Prop} {w w' : World} (h : Fr X w w') (o : Obj) : Fr X w (w'.alloc o) :=
  ⟨h.os, h.tape, h.output, by have := h.size; simp; omega, fun i hi hn => (Deep.blk_alloc_lt _ _ _ (Nat.lt_of_lt_of_le hi h.size)).trans (h.block i hi hn)⟩

theorem Fr.drew {X : Nat → Prop} {w w' : World} (h : Fr X w w') : Fr X w w'.drew := ⟨h.os, h.tape, h.output, h.size, h.block⟩

theorem Fr.cell {X : Nat → Prop} {w w' : World} (h : Fr X w w') {b i : Nat} (hb : b < w.heap.size) (hn : ¬ X b) : w'.cell? ⟨b, i, none⟩ = w.cell? ⟨b, i, none⟩ := by
  simp [World.cell?, h.block b hb hn]

theorem Fr.row {X : Nat → Prop} {w w' : World} (h : Fr X w w') {b t n : Nat} {f : Nat → Value} (hr : w.rowIs b t n f) (hn : ¬ X b) : w'.rowIs b t n f := hr.of_block (h.block b hr.lt hn)

theorem row_ne {w : World} {a b s t m n : Nat} {f g : Nat → Value} (h : w.rowIs a s m f) (k : w.rowIs b t n g) (hne : s ≠ t) : a ≠ b := by
  rintro rfl
  obtain ⟨c, hc, _⟩ := h
  obtain ⟨d, hd, _⟩ := k
  rw [hc] at hd
  simp at hd
  exact hne hd.2

/-- Where a kernel's memory lies: the machine, its tasks, the map, the programs (and their room), the jobs, their steps (and their room), and the list of those that are done. -/
structure Lay where
  mb : Nat
  tb : Nat
  jm : Nat
  pb : Nat → Nat
  pc : Nat → Nat
  jb : Nat → Nat → Nat
  rb : Nat → Nat → Nat
  rc : Nat → Nat → Nat
  kv : Value

open Cad

def mcell (S : Sy) (m : Mc) (Y : Lay) (q : Nat) : Value :=
  if q = 0 then .int .i64 m.now else if q = 1 then .int .i64 m.idle else if q = 2 then .int .i64 m.arrd else if q = 3 then .slice (some ⟨Y.tb, 0, none⟩) S.n S.n
  else if q < 12 then .int .i64 (S.C (q - 4)) else if q < 20 then .int .i64 (m.hold (q - 12)) else if q = 20 then .map (some Y.jm) else Y.kv

def taskC (S : Sy) (m : Mc) (Y : Lay) (t c : Nat) : Value :=
  if c = 0 then .int .i64 (S.P t) else if c = 1 then .int .i64 (S.J t) else if c = 2 then .int .i64 (S.Z t) else if c = 3 then .slice (some ⟨Y.pb t, 0, none⟩) (S.L t) (Y.pc t)
  else if c = 4 then .int .i64 ((m.done t : Int) + ((m.q t).length : Int)) else if c = 5 then .int .i64 (m.done t) else .int .i64 (m.last t)

def tcell (S : Sy) (m : Mc) (Y : Lay) (q : Nat) : Value := taskC S m Y (q / 7) (q % 7)

def jcell (t : Nat) (j : Jb) (d : Int) (v : Value) (q : Nat) : Value :=
  if q = 0 then .int .i64 t else if q = 1 then .int .i64 j.arr else if q = 2 then .int .i64 j.rel else if q = 3 then .int .i64 d else if q = 4 then .int .i64 j.left else if q = 5 then .int .i64 j.ord else v

/-- Steps in a block of their own. -/
def StepRow (w : World) (g cap : Nat) (K N : Nat → Int) (L : Nat) : Prop :=
  L ≤ cap ∧ ∃ f, w.rowIs g 99 (cap * 2) f ∧ ∀ i, i < L → f (i * 2) = .int .i64 (K i) ∧ f (i * 2 + 1) = .int .i64 (N i)

theorem StepRow.at0 {w : World} {g cap : Nat} {K N : Nat → Int} {L : Nat} (h : StepRow w g cap K N L) {i : Nat} (hi : i < L) : w.cell? ⟨g, i * 2, none⟩ = some (.int .i64 (K i)) := by
  obtain ⟨hl, f, hr, hf⟩ := h
  rw [hr.cell (by omega), (hf i hi).1]
theorem StepRow.at1 {w : World} {g cap : Nat} {K N : Nat → Int} {L : Nat} (h : StepRow w g cap K N L) {i : Nat} (hi : i < L) : w.cell? ⟨g, i * 2 + 1, none⟩ = some (.int .i64 (N i)) := by
  obtain ⟨hl, f, hr, hf⟩ := h
  rw [hr.cell (by omega), (hf i hi).2]
theorem StepRow.of_block {w w' : World} {g cap : Nat} {K N : Nat → Int} {L : Nat} (h : StepRow w g cap K N L) (e : w'.heap[g]? = w.heap[g]?) : StepRow w' g cap K N L := by
  obtain ⟨hl, f, hr, hf⟩ := h
  exact ⟨hl, f, hr.of_block e, hf⟩
theorem StepRow.row {w : World} {g cap : Nat} {K N : Nat → Int} {L : Nat} (h : StepRow w g cap K N L) : ∃ f, w.rowIs g 99 (cap * 2) f := by
  obtain ⟨hl, f, hr, hf⟩ := h
  exact ⟨f, hr⟩
theorem StepRow.lt {w : World} {g cap : Nat} {K N : Nat → Int} {L : Nat} (h : StepRow w g cap K N L) : g < w.heap.size := by
  obtain ⟨f, hr⟩ := h.row
  exact hr.lt
theorem StepRow.frozen {w : World} {g cap : Nat} {K N : Nat → Int} {L : Nat} (h : StepRow w g cap K N L) (i : Nat) : w.frozen? ⟨g, i, none⟩ = false := by
  obtain ⟨f, hr⟩ := h.row
  exact hr.frozen i
theorem StepRow.set {w : World} {g cap : Nat} {K N : Nat → Int} {L : Nat} (h : StepRow w g cap K N L) (k : Nat) (x : Int) : StepRow (w.setCell ⟨g, k * 2 + 1, none⟩ (.int .i64 x)) g cap K (upd N k x) L := by
  obtain ⟨hl, f, hr, hf⟩ := h
  refine ⟨hl, _, hr.set (k * 2 + 1) (.int .i64 x), fun i hi => ⟨?_, ?_⟩⟩
  · show (if i * 2 = k * 2 + 1 then _ else f (i * 2)) = _
    rw [if_neg (by omega)]; exact (hf i hi).1
  · show (if i * 2 + 1 = k * 2 + 1 then _ else f (i * 2 + 1)) = _
    by_cases e : i = k
    · subst e; simp [upd]
    · rw [if_neg (by omega), upd_other _ _ e]; exact (hf i hi).2

/-- Where a job stands, as the rest of its steps. -/
def restV (g cap L p : Nat) : Value := .slice (some ⟨g, p * 2, none⟩) (L - p) (cap - p)

/-- How a pointer to a job reads. -/
def jobR (v : Value) : Option (DataW Unit × List MemPlace) := match v with
  | .pointer none => some (.nil, [])
  | .pointer (some ⟨b, 0, none⟩) => some (.lit (.int .i64 (b : Int)), [])
  | _ => none

theorem jobR_nil {v : Value} {ps : List MemPlace} (h : jobR v = some (.nil, ps)) : v = .pointer none := by
  unfold jobR at h
  split at h
  · rfl
  · simp at h
  · simp at h
theorem jobR_some {v : Value} {ps : List MemPlace} {b : Nat} (h : jobR v = some (.lit (.int .i64 (b : Int)), ps)) : v = .pointer (some ⟨b, 0, none⟩) := by
  unfold jobR at h
  split at h
  · simp at h
  · rename_i x
    simp at h
    obtain ⟨h, _⟩ := h
    have : x = b := by omega
    rw [this]
  · simp at h

theorem Try.laidM : laidOutB Try.prog = true := by kernel_rfl
theorem Try.row132 : (145 : TypeId) < Try.prog.types.size := of_decide_eq_true (by kernel_rfl)
theorem Try.deep132 : Try.prog.keyTypeAt 2 145 = true := by kernel_rfl
theorem Try.law132 : WideMaps.KeyLaw Try.prog 145 := deep_law_laid Try.laidM (m := 2) (by decide) Try.row132 Try.deep132 (by rw [Try.underlying145])
theorem Try.keyed : Maps.Keyed Try.prog 145 := Maps.Keyed.of_law Try.law132

/-- A job's key. -/
def keyV (t i : Nat) : Value := .agg #[.int .i64 t, .int .i64 i]

end Go.Proofs.Ytdabcflpcklfiaa
