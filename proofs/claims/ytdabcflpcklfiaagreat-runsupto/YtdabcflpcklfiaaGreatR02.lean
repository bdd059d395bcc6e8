import Derived.Test.YtdabcflpcklfiaaGreatR01
import Derived.Test.YtdabcflpcklfiaaGreatProg
import Derived.WalkKit
import Derived.WalkSpells
import Derived.WalkLawsBesides
import Derived.BigQuiet
import Derived.Deep.QuietTactic
import Derived.Deep.OwnRows
import Derived.Deep.RegionWith
import Derived.Maps.OwnSet
import Derived.Maps.Views
import Derived.DeepKeys4
import Derived.Laws.Rows
/- Plain mathematics: the kernel as a machine of numbers: what arriving and a tick do to it. -/
namespace Go.Proofs.YtdabcflpcklfiaaGreat.Cad

/-- A job that is not done: where it stands in its program, and the numbers of its steps as they are now. -/
structure Jb where
  arr : Int
  rel : Int
  left : Int
  ord : Int
  p : Nat
  N : Nat → Int

/-- A job that is done. -/
structure Rc where
  task : Int
  arr : Int
  rel : Int
  done : Int
  left : Int
  ord : Int

/-- What of a kernel does not change: tasks, priorities, ceilings. -/
structure Sy where
  n : Nat
  P : Nat → Int
  J : Nat → Int
  Z : Nat → Int
  L : Nat → Nat
  K : Nat → Nat → Int
  N : Nat → Nat → Int
  C : Nat → Int

structure Mc where
  now : Int
  idle : Int
  arrd : Int
  done : Nat → Nat
  last : Nat → Int
  q : Nat → List Jb
  hold : Nat → Int
  kept : List Rc

def upd {α : Type} (f : Nat → α) (i : Nat) (v : α) : Nat → α := fun j => if j = i then v else f j

theorem upd_same {α : Type} (f : Nat → α) (i : Nat) (v : α) : upd f i v i = v := by simp [upd]
theorem upd_other {α : Type} (f : Nat → α) {i j : Nat} (v : α) (h : j ≠ i) : upd f i v j = f j := by simp [upd, h]

/-- The active priority, and whether something is held, as far as resource r. -/
def actTo (S : Sy) (h : Nat → Int) (t : Nat) : Nat → Int × Int
  | 0 => (S.Z t, 0)
  | r + 1 => if h r = t then (max (actTo S h t r).1 (S.C r), 1) else actTo S h t r

def rank (S : Sy) (h : Nat → Int) (t : Nat) : Int := 2 * (actTo S h t 8).1 + (actTo S h t 8).2

def readyB (m : Mc) (t : Nat) : Bool := match m.q t with
  | [] => false
  | j :: _ => decide (j.rel ≤ m.now)

/-- The task that has the tick, and its rank, of the first k. -/
def chTo (S : Sy) (m : Mc) : Nat → Int × Int
  | 0 => (-1, -1)
  | k + 1 => if readyB m k = true ∧ (chTo S m k).2 < rank S m.hold k then ((k : Int), rank S m.hold k) else chTo S m k

/-- The first step from p on that is not of kind c. -/
def skipF (K : Nat → Int) (c : Int) (L : Nat) : Nat → Nat → Nat
  | 0, p => p
  | f + 1, p => if p < L ∧ K p = c then skipF K c L f (p + 1) else p
def skip (K : Nat → Int) (c : Int) (L p : Nat) : Nat := skipF K c L (L - p) p

/-- The resources of d steps from p on go to v. -/
def setTo (N : Nat → Int) (v : Int) (h : Nat → Int) (p : Nat) : Nat → (Nat → Int)
  | 0 => h
  | d + 1 => upd (setTo N v h p d) (N (p + d)).toNat v

/-- One tick of a job of task t: who holds what, and the job. -/
def runK (K : Nat → Int) (L : Nat) (t : Nat) (h : Nat → Int) (j : Jb) : (Nat → Int) × Jb :=
  let p1 := skip K 2 L j.p
  let h1 := setTo j.N t h j.p (p1 - j.p)
  let x := j.N p1 - 1
  if 0 < x then (h1, { j with left := j.left - 1, p := p1, N := upd j.N p1 x })
  else
    let p2 := skip K 3 L (p1 + 1)
    (setTo j.N (-1) h1 (p1 + 1) (p2 - (p1 + 1)), { j with left := j.left - 1, p := p2, N := upd j.N p1 x })

def runJ (S : Sy) (t : Nat) (h : Nat → Int) (j : Jb) : (Nat → Int) × Jb := runK (S.K t) (S.L t) t h j

def keep (l : List Rc) (r : Rc) : List Rc := (if l.length = 40 then l.tail else l) ++ [r]

/-- A tick in which task t has its first job j run, r behind it. -/
def tickAt (S : Sy) (m : Mc) (t : Nat) (j : Jb) (r : List Jb) : Mc × Bool :=
  let x := runJ S t m.hold j
  if x.2.p < S.L t then ({ m with now := m.now + 1, hold := x.1, q := upd m.q t (x.2 :: r) }, false)
  else ({ m with now := m.now + 1, hold := x.1, q := upd m.q t r, done := upd m.done t (m.done t + 1), kept := keep m.kept ⟨t, j.arr, j.rel, m.now + 1, x.2.left, j.ord⟩ }, true)

def tick (S : Sy) (m : Mc) : Mc × Int × Bool :=
  let c := (chTo S m S.n).1
  match m.q c.toNat with
  | [] => ({ m with now := m.now + 1, idle := m.idle + 1 }, -1, false)
  | j :: r => if c < 0 then ({ m with now := m.now + 1, idle := m.idle + 1 }, -1, false) else ((tickAt S m c.toNat j r).1, c, (tickAt S m c.toNat j r).2)

/-- How many Computes there are ahead of step i. -/
def cmpTo (K : Nat → Int) : Nat → Nat
  | 0 => 0
  | i + 1 => if K i = 1 then cmpTo K i + 1 else cmpTo K i

def Fits (K N : Nat → Int) (L : Nat) (D : Nat → Int) (d : Nat) : Prop :=
  (∀ i, i < L → K i = 1 → cmpTo K i < d ∧ 1 ≤ D (cmpTo K i) ∧ D (cmpTo K i) ≤ N i) ∧ cmpTo K L = d

@[reducible] def fitsDec (K N : Nat → Int) (L : Nat) (D : Nat → Int) (d : Nat) : Decidable (Fits K N L D d) := by unfold Fits; exact inferInstance
/-- The same as a Bool. -/
def fitsB (K N : Nat → Int) (L : Nat) (D : Nat → Int) (d : Nat) : Bool := @decide (Fits K N L D d) (fitsDec K N L D d)
@[simp] theorem fitsB_true (K N : Nat → Int) (L : Nat) (D : Nat → Int) (d : Nat) : (fitsB K N L D d = true) = Fits K N L D d := by
  unfold fitsB
  exact propext (@decide_eq_true_iff _ (fitsDec K N L D d))
@[simp] theorem fitsB_false (K N : Nat → Int) (L : Nat) (D : Nat → Int) (d : Nat) : (fitsB K N L D d = false) = ¬ Fits K N L D d := by
  unfold fitsB
  exact propext (@decide_eq_false_iff_not _ (fitsDec K N L D d))

/-- The numbers of a new job's steps. -/
def numOf (K N D : Nat → Int) (i : Nat) : Int := if K i = 1 then D (cmpTo K i) else N i

def refuse (S : Sy) (m : Mc) (t : Nat) (jit : Int) (D : Nat → Int) (d : Nat) : Int :=
  if 0 < m.done t + (m.q t).length ∧ m.now - m.last t < S.P t then 6
  else if jit < 0 ∨ S.J t < jit then 7
  else if fitsB (S.K t) (S.N t) (S.L t) D d = false then 8
  else if 8 ≤ (m.q t).length then 9
  else 0

def jobOf (S : Sy) (m : Mc) (t : Nat) (jit : Int) (D : Nat → Int) : Jb :=
  { arr := m.now, rel := m.now + jit, left := demTo (S.K t) (numOf (S.K t) (S.N t) D) (S.L t), ord := m.arrd, p := 0, N := numOf (S.K t) (S.N t) D }

def added (S : Sy) (m : Mc) (t : Nat) (jit : Int) (D : Nat → Int) : Mc :=
  { m with arrd := m.arrd + 1, last := upd m.last t m.now, q := upd m.q t (m.q t ++ [jobOf S m t jit D]) }

def arrive (S : Sy) (m : Mc) (t : Int) (jit : Int) (D : Nat → Int) (d : Nat) : Mc × Int :=
  if t < 0 ∨ (S.n : Int) ≤ t then (m, 5)
  else if refuse S m t.toNat jit D d ≠ 0 then (m, refuse S m t.toNat jit D d)
  else (added S m t.toNat jit D, 0)

/-- The ceilings as the program raises them, by the first i tasks and k steps of the next. -/
def ceilK (K N : Nat → Int) (z : Int) (c : Nat → Int) : Nat → (Nat → Int)
  | 0 => c
  | k + 1 => if K k = 2 then upd (ceilK K N z c k) (N k).toNat (max (ceilK K N z c k (N k).toNat) z) else ceilK K N z c k
def ceilI (K N : Nat → Nat → Int) (L : Nat → Nat) (Z : Nat → Int) : Nat → (Nat → Int)
  | 0 => fun _ => 0
  | i + 1 => ceilK (K i) (N i) (Z i) (ceilI K N L Z i) (L i)

def start : Mc := { now := 0, idle := 0, arrd := 0, done := fun _ => 0, last := fun _ => 0, q := fun _ => [], hold := fun _ => -1, kept := [] }

/-- What holds of a job's steps from where it stands. -/
structure JbOk (K : Nat → Int) (L : Nat) (j : Jb) : Prop where
  lt : j.p < L
  last : K (L - 1) = 1
  here : K j.p ≠ 3
  kind : ∀ i, i < L → K i = 1 ∨ K i = 2 ∨ K i = 3
  comp : ∀ i, j.p ≤ i → i < L → K i = 1 → 1 ≤ j.N i ∧ j.N i ≤ 100
  res : ∀ i, j.p ≤ i → i < L → K i ≠ 1 → 0 ≤ j.N i ∧ j.N i ≤ 7
  behind : ∀ i, i + 1 < L → K i = 2 → K (i + 1) ≠ 3
  left : j.left = demTo K j.N L - demTo K j.N j.p

/-- What holds of the numbers, so that nothing overflows. -/
structure Ok (S : Sy) (m : Mc) : Prop where
  one : 1 ≤ S.n
  eight : S.n ≤ 8
  prio : ∀ t, t < S.n → 0 ≤ S.Z t ∧ S.Z t < 8
  ceil : ∀ r, r < 8 → 0 ≤ S.C r ∧ S.C r < 8
  len : ∀ t, t < S.n → 1 ≤ S.L t ∧ S.L t ≤ 16
  now0 : 0 ≤ m.now
  now1 : m.now ≤ 1000000000000000000
  idle : 0 ≤ m.idle ∧ m.idle ≤ m.now
  arrd : 0 ≤ m.arrd ∧ m.arrd ≤ 1000000000000000000
  per : ∀ t, t < S.n → 1 ≤ S.P t ∧ S.P t ≤ 10000 ∧ 0 ≤ S.J t ∧ S.J t ≤ 10000
  few : ∀ t, t < S.n → (m.q t).length ≤ 8
  many : ∀ t, t < S.n → (m.done t : Int) + ((m.q t).length : Int) ≤ m.arrd
  lastn : ∀ t, t < S.n → 0 ≤ m.last t ∧ m.last t ≤ m.now
  job : ∀ t, t < S.n → ∀ j ∈ m.q t, JbOk (S.K t) (S.L t) j ∧ 0 ≤ j.arr ∧ j.arr ≤ m.now ∧ 0 ≤ j.rel ∧ j.rel ≤ m.now + 10000 ∧ 0 ≤ j.ord ∧ j.ord < m.arrd
  keptn : m.kept.length ≤ 40
  steps : ∀ t, t < S.n → (∀ i, i < S.L t → S.K t i = 1 ∨ S.K t i = 2 ∨ S.K t i = 3) ∧ S.K t (S.L t - 1) = 1 ∧ S.K t 0 ≠ 3 ∧ (∀ i, i + 1 < S.L t → S.K t i = 2 → S.K t (i + 1) ≠ 3) ∧ (∀ i, i < S.L t → S.K t i ≠ 1 → 0 ≤ S.N t i ∧ S.N t i ≤ 7) ∧ (∀ i, i < S.L t → S.K t i = 1 → 1 ≤ S.N t i ∧ S.N t i ≤ 100)

/-! ### laws -/

theorem skipF_spec (K : Nat → Int) (c : Int) (L : Nat) : ∀ f p, f = L - p → p ≤ L → p ≤ skipF K c L f p ∧ skipF K c L f p ≤ L ∧ (∀ i, p ≤ i → i < skipF K c L f p → K i = c) ∧ (skipF K c L f p < L → K (skipF K c L f p) ≠ c)
  | 0, p, hf, hp => by
    have : p = L := by omega
    subst this
    exact ⟨Nat.le_refl _, Nat.le_refl _, fun i h1 h2 => by simp [skipF] at h2; omega, fun h => by simp [skipF] at h⟩
  | f + 1, p, hf, hp => by
    unfold skipF
    by_cases hc : p < L ∧ K p = c
    · rw [if_pos hc]
      obtain ⟨h1, h2, h3, h4⟩ := skipF_spec K c L f (p + 1) (by omega) (by omega)
      refine ⟨by omega, h2, fun i hi hl => ?_, h4⟩
      by_cases e : i = p
      · rw [e]; exact hc.2
      · exact h3 i (by omega) hl
    · rw [if_neg hc]
      exact ⟨Nat.le_refl _, hp, fun i h1 h2 => by omega, fun h e => hc ⟨h, e⟩⟩

theorem skip_spec (K : Nat → Int) (c : Int) {L p : Nat} (hp : p ≤ L) : p ≤ skip K c L p ∧ skip K c L p ≤ L ∧ (∀ i, p ≤ i → i < skip K c L p → K i = c) ∧ (skip K c L p < L → K (skip K c L p) ≠ c) :=
  skipF_spec K c L (L - p) p rfl hp

theorem chTo_range (S : Sy) (m : Mc) : ∀ k, (chTo S m k).1 = -1 ∧ (chTo S m k).2 = -1 ∨ ∃ t : Nat, t < k ∧ (chTo S m k).1 = (t : Int) ∧ readyB m t = true ∧ (chTo S m k).2 = rank S m.hold t
  | 0 => .inl ⟨rfl, rfl⟩
  | k + 1 => by
    unfold chTo
    by_cases h : readyB m k = true ∧ (chTo S m k).2 < rank S m.hold k
    · rw [if_pos h]; exact .inr ⟨k, by omega, rfl, h.1, rfl⟩
    · rw [if_neg h]
      rcases chTo_range S m k with h1 | ⟨t, h1, h2, h3, h4⟩
      · exact .inl h1
      · exact .inr ⟨t, by omega, h2, h3, h4⟩

theorem actTo_range {S : Sy} {h : Nat → Int} {t : Nat} (hz : 0 ≤ S.Z t ∧ S.Z t < 8) (hc : ∀ r, r < 8 → 0 ≤ S.C r ∧ S.C r < 8) : ∀ r, r ≤ 8 → 0 ≤ (actTo S h t r).1 ∧ (actTo S h t r).1 < 8 ∧ 0 ≤ (actTo S h t r).2 ∧ (actTo S h t r).2 ≤ 1
  | 0, _ => by simp [actTo]; omega
  | r + 1, hr => by
    have ih := actTo_range hz hc r (by omega) (h := h)
    have hcr := hc r (by omega)
    unfold actTo
    split
    · refine ⟨?_, ?_, by simp, by simp⟩
      · show 0 ≤ max _ _; omega
      · show max _ _ < 8; omega
    · exact ih

theorem rank_range {S : Sy} {m : Mc} (hk : Ok S m) {t : Nat} (ht : t < S.n) (h : Nat → Int) : 0 ≤ rank S h t ∧ rank S h t < 16 := by
  have := actTo_range (h := h) (hk.prio t ht) hk.ceil 8 (Nat.le_refl _)
  unfold rank
  omega

end Go.Proofs.YtdabcflpcklfiaaGreat.Cad

/- Where a kernel lies in memory, and what a call leaves alone. -/
namespace Go.Proofs.YtdabcflpcklfiaaGreat
open Go.RowKit

/-- Nothing has turned but the blocks of X and new ones. -/
structure Fr (X : Nat → Prop) (w w' : World) : Prop where
  os : w'.os = w.os
  tape : w'.tape = w.tape
  output : w'.output = w.output
  size : w.heap.size ≤ w'.heap.size
  block : ∀ b, b < w.heap.size → ¬ X b → w'.heap[b]? = w.heap[b]?

theorem Fr.refl (X : Nat → Prop) (w : World) : Fr X w w := ⟨rfl, rfl, rfl, Nat.le_refl _, fun _ _ _ => rfl⟩

theorem Fr.trans {X X' : Nat → Prop} {a b c : World} (h : Fr X a b) (k : Fr X' b c) (hx : ∀ i, X' i → X i ∨ a.heap.size ≤ i) : Fr X a c :=
  ⟨k.os.trans h.os, k.tape.trans h.tape, k.output.trans h.output, Nat.le_trans h.size k.size, fun i hi hn => (k.block i (Nat.lt_of_lt_of_le hi h.size) (fun hX => by rcases hx i hX with h1 | h1; exact hn h1; omega)).trans (h.block i hi hn)⟩

theorem Fr.then {X : Nat → Prop} {a b c : World} (h : Fr X a b) (k : Fr X b c) : Fr X a c := h.trans k (fun _ hi => .inl hi)

theorem Fr.mono {X X' : Nat → Prop} {a b : World} (h : Fr X a b) (hx : ∀ i, X i → X' i) : Fr X' a b := ⟨h.os, h.tape, h.output, h.size, fun i hi hn => h.block i hi (fun hX => hn (hx i hX))⟩

theorem Fr.of_below {w w' : World} (X : Nat → Prop) (h : Below w.heap.size w w') : Fr X w w' := ⟨h.os, h.tape, h.output, h.size, fun i hi _ => h.block i hi⟩

theorem Fr.below {X : Nat → Prop} {B : Nat} {w w' : World} (h : Fr X w w') (hB : B ≤ w.heap.size) (hx : ∀ i, X i → B ≤ i) : Below B w w' :=
  ⟨h.os, h.tape, h.output, h.size, fun i hi => h.block i (by omega) (fun hX => by have := hx i hX; omega)⟩

theorem Fr.setCell {X : Nat → Prop} {w w' : World} (h : Fr X w w') {a : Addr} (ha : X a.block ∨ w.heap.size ≤ a.block) (v : Value) : Fr X w (w'.setCell a v) :=
  ⟨h.os, h.tape, h.output, by simpa using h.size, fun i hi hn => (Deep.blk_setCell_other _ _ _ _ (fun e => by rcases ha with h1 | h1; exact hn (e ▸ h1); omega)).trans (h.block i hi hn)⟩

theorem Fr.alloc {X : Nat → Prop} {w w' : World} (h : Fr X w w') (o : Obj) : Fr X w (w'.alloc o) :=
  ⟨h.os, h.tape, h.output, by have := h.size; simp; omega, fun i hi hn => (Deep.blk_alloc_lt _ _ _ (Nat.lt_of_lt_of_le hi h.size)).trans (h.block i hi hn)⟩

theorem Fr.drew {X : Nat → Prop} {w w' : World} (h : Fr X w w') : Fr X w w'.drew := ⟨h.os, h.tape, h.output, h.size, h.block⟩

theorem Fr.cell {X : Nat → Prop} {w w' : World} (h : Fr X w w') {b i : Nat} (hb : b < w.heap.size) (hn : ¬ X b) : w'.cell? ⟨b, i, none⟩ = w.cell? ⟨b, i, none⟩ := by
  simp [World.cell?, h.block b hb hn]

theorem Fr.row {X : Nat → Prop} {w w' : World} (h : Fr X w w') {b t n : Nat} {f : Nat → Value} (hr : w.rowIs b t n f) (hn : ¬ X b) : w'.rowIs b t n f := hr.of_block (h.block b hr.lt hn)

theorem row_ne {w : World} {a b s t m n : Nat} {f g : Nat → Value} (h : w.rowIs a s m f) (k : w.rowIs b t n g) (hne : s ≠ t) : a ≠ b := by
  rintro rfl
  obtain ⟨c, hc, _⟩ := h
  obtain ⟨d, hd, _⟩ := k
  rw [hc] at hd
  simp at hd
  exact hne hd.2

/-- Where a kernel's memory lies: the machine, its tasks, the map, the programs (and their room), the jobs, their steps (and their room), and the list of those that are done. -/
structure Lay where
  mb : Nat
  tb : Nat
  jm : Nat
  pb : Nat → Nat
  pc : Nat → Nat
  jb : Nat → Nat → Nat
  rb : Nat → Nat → Nat
  rc : Nat → Nat → Nat
  kv : Value

open Cad

def mcell (S : Sy) (m : Mc) (Y : Lay) (q : Nat) : Value :=
  if q = 0 then .int .i64 m.now else if q = 1 then .int .i64 m.idle else if q = 2 then .int .i64 m.arrd else if q = 3 then .slice (some ⟨Y.tb, 0, none⟩) S.n S.n
  else if q < 12 then .int .i64 (S.C (q - 4)) else if q < 20 then .int .i64 (m.hold (q - 12)) else if q = 20 then .map (some Y.jm) else Y.kv

def taskC (S : Sy) (m : Mc) (Y : Lay) (t c : Nat) : Value :=
  if c = 0 then .int .i64 (S.P t) else if c = 1 then .int .i64 (S.J t) else if c = 2 then .int .i64 (S.Z t) else if c = 3 then .slice (some ⟨Y.pb t, 0, none⟩) (S.L t) (Y.pc t)
  else if c = 4 then .int .i64 ((m.done t : Int) + ((m.q t).length : Int)) else if c = 5 then .int .i64 (m.done t) else .int .i64 (m.last t)

def tcell (S : Sy) (m : Mc) (Y : Lay) (q : Nat) : Value := taskC S m Y (q / 7) (q % 7)

def jcell (t : Nat) (j : Jb) (d : Int) (v : Value) (q : Nat) : Value :=
  if q = 0 then .int .i64 t else if q = 1 then .int .i64 j.arr else if q = 2 then .int .i64 j.rel else if q = 3 then .int .i64 d else if q = 4 then .int .i64 j.left else if q = 5 then .int .i64 j.ord else v

/-- Steps in a block of their own. -/
def StepRow (w : World) (g cap : Nat) (K N : Nat → Int) (L : Nat) : Prop :=
  L ≤ cap ∧ ∃ f, w.rowIs g 86 (cap * 2) f ∧ ∀ i, i < L → f (i * 2) = .int .i64 (K i) ∧ f (i * 2 + 1) = .int .i64 (N i)

theorem StepRow.at0 {w : World} {g cap : Nat} {K N : Nat → Int} {L : Nat} (h : StepRow w g cap K N L) {i : Nat} (hi : i < L) : w.cell? ⟨g, i * 2, none⟩ = some (.int .i64 (K i)) := by
  obtain ⟨hl, f, hr, hf⟩ := h
  rw [hr.cell (by omega), (hf i hi).1]
theorem StepRow.at1 {w : World} {g cap : Nat} {K N : Nat → Int} {L : Nat} (h : StepRow w g cap K N L) {i : Nat} (hi : i < L) : w.cell? ⟨g, i * 2 + 1, none⟩ = some (.int .i64 (N i)) := by
  obtain ⟨hl, f, hr, hf⟩ := h
  rw [hr.cell (by omega), (hf i hi).2]
theorem StepRow.of_block {w w' : World} {g cap : Nat} {K N : Nat → Int} {L : Nat} (h : StepRow w g cap K N L) (e : w'.heap[g]? = w.heap[g]?) : StepRow w' g cap K N L := by
  obtain ⟨hl, f, hr, hf⟩ := h
  exact ⟨hl, f, hr.of_block e, hf⟩
theorem StepRow.row {w : World} {g cap : Nat} {K N : Nat → Int} {L : Nat} (h : StepRow w g cap K N L) : ∃ f, w.rowIs g 86 (cap * 2) f := by
  obtain ⟨hl, f, hr, hf⟩ := h
  exact ⟨f, hr⟩
theorem StepRow.lt {w : World} {g cap : Nat} {K N : Nat → Int} {L : Nat} (h : StepRow w g cap K N L) : g < w.heap.size := by
  obtain ⟨f, hr⟩ := h.row
  exact hr.lt
theorem StepRow.frozen {w : World} {g cap : Nat} {K N : Nat → Int} {L : Nat} (h : StepRow w g cap K N L) (i : Nat) : w.frozen? ⟨g, i, none⟩ = false := by
  obtain ⟨f, hr⟩ := h.row
  exact hr.frozen i
theorem StepRow.set {w : World} {g cap : Nat} {K N : Nat → Int} {L : Nat} (h : StepRow w g cap K N L) (k : Nat) (x : Int) : StepRow (w.setCell ⟨g, k * 2 + 1, none⟩ (.int .i64 x)) g cap K (upd N k x) L := by
  obtain ⟨hl, f, hr, hf⟩ := h
  refine ⟨hl, _, hr.set (k * 2 + 1) (.int .i64 x), fun i hi => ⟨?_, ?_⟩⟩
  · show (if i * 2 = k * 2 + 1 then _ else f (i * 2)) = _
    rw [if_neg (by omega)]; exact (hf i hi).1
  · show (if i * 2 + 1 = k * 2 + 1 then _ else f (i * 2 + 1)) = _
    by_cases e : i = k
    · subst e; simp [upd]
    · rw [if_neg (by omega), upd_other _ _ e]; exact (hf i hi).2

/-- Where a job stands, as the rest of its steps. -/
def restV (g cap L p : Nat) : Value := .slice (some ⟨g, p * 2, none⟩) (L - p) (cap - p)

/-- How a pointer to a job reads. -/
def jobR (v : Value) : Option (DataW Unit × List MemPlace) := match v with
  | .pointer none => some (.nil, [])
  | .pointer (some ⟨b, 0, none⟩) => some (.lit (.int .i64 (b : Int)), [])
  | _ => none

theorem jobR_nil {v : Value} {ps : List MemPlace} (h : jobR v = some (.nil, ps)) : v = .pointer none := by
  unfold jobR at h
  split at h
  · rfl
  · simp at h
  · simp at h
theorem jobR_some {v : Value} {ps : List MemPlace} {b : Nat} (h : jobR v = some (.lit (.int .i64 (b : Int)), ps)) : v = .pointer (some ⟨b, 0, none⟩) := by
  unfold jobR at h
  split at h
  · simp at h
  · rename_i x
    simp at h
    obtain ⟨h, _⟩ := h
    have : x = b := by omega
    rw [this]
  · simp at h

theorem Tryz.laidM : laidOutB Tryz.prog = true := by kernel_rfl
theorem Tryz.row138 : (164 : TypeId) < Tryz.prog.types.size := of_decide_eq_true (by kernel_rfl)
theorem Tryz.deep132 : Tryz.prog.keyTypeAt 2 164 = true := by kernel_rfl
theorem Tryz.law132 : WideMaps.KeyLaw Tryz.prog 164 := deep_law_laid Tryz.laidM (m := 2) (by decide) Tryz.row138 Tryz.deep132 (by rw [Tryz.underlying164])
theorem Tryz.keyed : Maps.Keyed Tryz.prog 164 := Maps.Keyed.of_law Tryz.law132

/-- A job's key. -/
def keyV (t i : Nat) : Value := .agg #[.int .i64 t, .int .i64 i]

end Go.Proofs.YtdabcflpcklfiaaGreat

/- The map of the jobs: look up, put in, strike out. -/
namespace Go.Proofs.YtdabcflpcklfiaaGreat
open Go.RowKit Cad

theorem Tryz.keyType132 : Tryz.prog.keyType 164 = true := by kernel_rfl
theorem Tryz.cells164 : Tryz.prog.cellsOf 164 = 2 := by kernel_rfl
theorem Tryz.cel3 : Tryz.prog.cellsOf 3 = 1 := by kernel_rfl
theorem lits_int (d : Nat) {n : Int} (h : (Lit.int .i64 n).wf = true) : Tryz.prog.keyLits (d + 1) 3 [.int .i64 n] = some [.int .i64 n] := by
  unfold Program.keyLits
  rw [Tryz.underlying3]
  simp [h]
theorem lits_key (d : Nat) {a b : Int} (ha : (Lit.int .i64 a).wf = true) (hb : (Lit.int .i64 b).wf = true) : Tryz.prog.keyLits (d + 1 + 1) 164 [.int .i64 a, .int .i64 b] = some [.int .i64 a, .int .i64 b] := by
  have e1 := lits_int d ha
  have e2 := lits_int d hb
  unfold Program.keyLits
  rw [Tryz.underlying164]
  simp only [Tryz.cells164]
  simp [Tryz.cel3, e1, e2]
def keyL (t i : Nat) : Lit := .string (keyBytes [.int .i64 t, .int .i64 i])

theorem key_of {t i : Nat} (ht : t ≤ 9223372036854775807) (hi : i ≤ 9223372036854775807) : keyOf Tryz.prog 164 (keyV t i) = some (keyL t i) := by
  have h1 : (Lit.int .i64 (t : Int)).wf = true := WalkArith.wf_i64 (by omega)
  have h2 : (Lit.int .i64 (i : Int)).wf = true := WalkArith.wf_i64 (by omega)
  obtain ⟨d, hd⟩ : ∃ d, Tryz.prog.types.size = d + 1 := ⟨236, by kernel_rfl⟩
  have e := lits_key d h1 h2
  have hform : (keyV t i).formed Tryz.prog 164 = true := by
    simp only [keyV, Value.formed, Tryz.underlying164, Tryz.cells164]
    rfl
  unfold keyL
  unfold keyOf
  rw [Tryz.underlying164]
  simp only [Tryz.keyType132, hform, hd, Bool.and_self, if_true]
  show (Tryz.prog.keyLits (d + 1 + 1) 164 [.int .i64 t, .int .i64 i]).map _ = _
  rw [e]
  rfl

theorem keyL_inj {t i t' i' : Nat} (h1 : t ≤ 9223372036854775807) (h2 : i ≤ 9223372036854775807) (h3 : t' ≤ 9223372036854775807) (h4 : i' ≤ 9223372036854775807) (h : keyL t i = keyL t' i') : t = t' ∧ i = i' := by
  have e := Tryz.keyed.inj (key_of h1 h2) (h ▸ key_of h3 h4)
  simp [keyV] at e
  omega

/-- What lies at a key: no job, or a block. -/
def jdat (x : Option Nat) : DataW Unit := match x with
  | none => .nil
  | some b => .lit (.int .i64 (b : Int))

def jptr (x : Option Nat) : Value := .pointer (x.map fun b => ⟨b, 0, none⟩)

theorem jobR_dat {v : Value} {ps : List MemPlace} {x : Option Nat} (h : jobR v = some (jdat x, ps)) : v = jptr x := by
  cases x with
  | none => exact jobR_nil h
  | some b => exact jobR_some h

/-- Block b is the map with M's jobs, of at most n entries. -/
def JMap (w : World) (b n : Nat) (M : Nat → Nat → Option Nat) : Prop :=
  ∃ D : DataW Unit, w.ownsMap Tryz.prog 164 jobR b n D ∧ (∀ t i, t ≤ 9223372036854775807 → i ≤ 9223372036854775807 → D.atKey (keyL t i) .nil = jdat (M t i)) ∧
    (∀ l, Maps.has D l = true → ∃ t i, t ≤ 9223372036854775807 ∧ i ≤ 9223372036854775807 ∧ l = keyL t i ∧ (M t i).isSome = true)

theorem JMap.of_block {w w' : World} {b n : Nat} {M : Nat → Nat → Option Nat} (h : JMap w b n M) (e : w'.heap[b]? = w.heap[b]?) : JMap w' b n M := by
  obtain ⟨D, ⟨es, clock, hb, F, hs, hD⟩, h2, h3⟩ := h
  exact ⟨D, ⟨es, clock, e.trans hb, F, hs, hD⟩, h2, h3⟩

theorem JMap.lt {w : World} {b n : Nat} {M : Nat → Nat → Option Nat} (h : JMap w b n M) : b < w.heap.size := by
  obtain ⟨D, hown, _⟩ := h
  exact hown.lt

theorem JMap.ne {w : World} {b n : Nat} {M : Nat → Nat → Option Nat} (h : JMap w b n M) {g t m : Nat} {f : Nat → Value} (hr : w.rowIs g t m f) : b ≠ g := by
  rintro rfl
  obtain ⟨D, ⟨es, clock, hb, _⟩, _⟩ := h
  obtain ⟨c, hc, _⟩ := hr
  rw [hb] at hc
  cases hc

theorem JMap.congr {w : World} {b n : Nat} {M M' : Nat → Nat → Option Nat} (h : JMap w b n M) (e : ∀ t i, M t i = M' t i) : JMap w b n M' := by
  have : M = M' := by funext t i; exact e t i
  exact this ▸ h

theorem Tryz.zero123 (w : World) : (zeroValue 154).run Tryz.prog w = .ok (.pointer none) w := by kernel_rfl

theorem JMap.made (w : World) : JMap (w.alloc (.map #[] 0)) w.heap.size 0 (fun _ _ => none) :=
  ⟨.map [], World.ownsMap_made _ _ _ _, fun _ _ _ _ => rfl, fun l h => by simp [Maps.has] at h⟩

/-- The same as an equation. -/
theorem run_jlook {w : World} {b n : Nat} {M : Nat → Nat → Option Nat} {t i : Nat} (ht : t ≤ 9223372036854775807) (hi : i ≤ 9223372036854775807) (hj : JMap w b n M) :
    (Instr.lookup 138 (.map (some b)) (keyV t i) false).run Tryz.prog w = .ok (jptr (M t i)) w := by
  obtain ⟨D, hown, hat, _⟩ := hj
  obtain ⟨v, ps, hrun, hv⟩ := hown.lookup Tryz.keyed Tryz.underlying138 (Tryz.zero123 w) (zd := .nil) (zp := []) rfl (key_of ht hi)
  rw [hat t i ht hi] at hv
  rw [hrun, jobR_dat hv]

def mput (M : Nat → Nat → Option Nat) (t i : Nat) (x : Option Nat) : Nat → Nat → Option Nat := fun t' i' => if t' = t ∧ i' = i then x else M t' i'

theorem fr_turned {w w' : World} {b : Nat} (h : w.mapTurned w' b) : Fr (fun i => i = b) w w' :=
  ⟨h.grown.os, h.grown.tape, h.grown.output, h.grown.size, fun i hi hn => h.grown.block i hi (fun e => hn (by simpa using e))⟩

end Go.Proofs.YtdabcflpcklfiaaGreat

/- A job's next step is taken off. -/
namespace Go.Proofs.YtdabcflpcklfiaaGreat
open Go.RowKit Cad

theorem Tryz.inf85 : (Tryz.prog.info? 86).map (fun i => (i.zero, i.size, i.bytes)) = some (some (.agg #[.int .i64 0, .int .i64 0]), 2, 16) := by kernel_rfl

theorem heap_two (w : World) (a : Addr) (v : Value) (o o' : Obj) : (((w.setCell a v).alloc o).alloc o').heap[w.heap.size]? = some o := by
  rw [Deep.blk_alloc_lt _ _ _ (by simp)]
  have := Deep.blk_alloc_new (w.setCell a v) o
  simpa using this

set_option maxHeartbeats 1000000 in
theorem next_any (jb rb off len cap : Nat) (f : Nat → Value) (k x : Int) (w : World) (hl : 1 ≤ len) (_hlc : len ≤ cap) (hf : f 6 = .slice (some ⟨rb, off, none⟩) len cap)
    (hj : w.rowIs jb 160 7 f) (h0 : w.cell? ⟨rb, off, none⟩ = some (.int .i64 k)) (h1 : w.cell? ⟨rb, off + 1, none⟩ = some (.int .i64 x)) (hrl : rb < w.heap.size) :
    Calls Tryz.prog 116 #[.pointer (some ⟨jb, 0, none⟩)] w fun e w' => e = .returned (.agg #[.int .i64 k, .int .i64 x]) ∧
      w'.rowIs jb 160 7 (fun q => if q = 6 then .slice (some ⟨rb, if cap = 1 then off else off + 2, none⟩) (len - 1) (cap - 1) else f q) ∧ Fr (fun i => i = jb) w w' := by
  have c6 : w.cell? ⟨jb, 6, none⟩ = some (.slice (some ⟨rb, off, none⟩) len cap) := by rw [hj.cell (by omega), hf]
  have z6 := hj.frozen 6
  have hjl := hj.lt
  go_enter Tryz.func116, Tryz.ntmps116
  go_wp2
  · refine bodyPost_ret (results_cell_row rfl _ _ w.heap.size 86 #[.int .i64 k, .int .i64 x] (0, 0) _ rfl (heap_two _ _ _ _ _) Tryz.underlying86 rfl (by kernel_rfl)) rfl ?_
    exact ⟨rfl, ((hj.set 6 _).alloc _).alloc _, (((Fr.refl (fun i => i = jb) w).setCell (a := ⟨jb, 6, none⟩) (.inl rfl) _).alloc _).alloc _⟩
  · refine bodyPost_ret (results_cell_row rfl _ _ w.heap.size 86 #[.int .i64 k, .int .i64 x] (0, 0) _ rfl (heap_two _ _ _ _ _) Tryz.underlying86 rfl (by kernel_rfl)) rfl ?_
    exact ⟨rfl, ((hj.set 6 _).alloc _).alloc _, (((Fr.refl (fun i => i = jb) w).setCell (a := ⟨jb, 6, none⟩) (.inl rfl) _).alloc _).alloc _⟩
end Go.Proofs.YtdabcflpcklfiaaGreat

/- A job uses one tick. -/
namespace Go.Proofs.YtdabcflpcklfiaaGreat
open Go.RowKit Cad

/-- The machine's cells, with other holders. -/
def mh (f : Nat → Value) (h : Nat → Int) (q : Nat) : Value := if 12 ≤ q ∧ q < 20 then .int .i64 (h (q - 12)) else f q

structure RunInv (w0 wr : World) (mb jb rb cap L t : Nat) (f : Nat → Value) (K : Nat → Int) (j : Jb) (v : Value) (h : Nat → Int) : Prop where
  mrow : wr.rowIs mb 142 22 (mh f h)
  jrow : wr.rowIs jb 160 7 (jcell t j (-1) v)
  srow : StepRow wr rb cap K j.N L
  fr : Fr (fun i => i = mb ∨ i = jb ∨ i = rb) w0 wr

def RestAt (rb cap L p : Nat) (v : Value) : Prop := (p < L → v = restV rb cap L p) ∧ (p = L → ∃ ao c, v = .slice ao 0 c)

theorem mh_set {wr : World} {mb : Nat} {f : Nat → Value} {h : Nat → Int} (hm : wr.rowIs mb 142 22 (mh f h)) {r : Nat} (hr : r < 8) (x : Int) : (wr.setCell ⟨mb, 12 + r, none⟩ (.int .i64 x)).rowIs mb 142 22 (mh f (upd h r x)) :=
  (hm.set (12 + r) (.int .i64 x)).congr (fun q hq => by
    show (if q = 12 + r then Value.int .i64 x else mh f h q) = _
    unfold mh upd
    by_cases e : q = 12 + r
    · rw [if_pos e, if_pos (by omega), if_pos (by omega)]
    · rw [if_neg e]
      by_cases c : 12 ≤ q ∧ q < 20
      · rw [if_pos c, if_pos c, if_neg (by omega)]
      · rw [if_neg c, if_neg c])

def restLen (jb : Nat) (wr : World) : Nat := match wr.cell? ⟨jb, 6, none⟩ with
  | some (.slice _ n _) => n
  | _ => 0

/-- What 'next' does where a job stands. -/
theorem next_at {w0 wr : World} {mb jb rb cap L t : Nat} {f : Nat → Value} {K : Nat → Int} {j : Jb} {h : Nat → Int} (hi : RunInv w0 wr mb jb rb cap L t f K j (restV rb cap L j.p) h) (hp : j.p < L) :
    Calls Tryz.prog 116 #[.pointer (some ⟨jb, 0, none⟩)] wr fun e w' => ∃ v, e = .returned (.agg #[.int .i64 (K j.p), .int .i64 (j.N j.p)]) ∧ RestAt rb cap L (j.p + 1) v ∧
      RunInv w0 w' mb jb rb cap L t f K { j with p := j.p + 1 } v h ∧ w'.cell? ⟨jb, 0, none⟩ = some (.int .i64 t) := by
  have hlc := hi.srow.1
  refine (next_any jb rb (j.p * 2) (L - j.p) (cap - j.p) _ (K j.p) (j.N j.p) wr (by omega) (by omega) (by rfl) hi.jrow (hi.srow.at0 hp) (hi.srow.at1 hp) hi.srow.lt).mono ?_
  rintro e w' ⟨rfl, hrow, hfr⟩
  obtain ⟨g, hg⟩ := hi.srow.row
  have hmj : mb ≠ jb := row_ne hi.mrow hi.jrow (by decide)
  have hrj : rb ≠ jb := row_ne hg hi.jrow (by decide)
  refine ⟨_, rfl, ?_, ⟨hfr.row hi.mrow hmj, hrow.congr (g := jcell t { j with p := j.p + 1 } (-1) (.slice (some ⟨rb, if cap - j.p = 1 then j.p * 2 else j.p * 2 + 2, none⟩) (L - j.p - 1) (cap - j.p - 1))) (fun q hq => ?_), hi.srow.of_block (hfr.block _ hi.srow.lt hrj), hi.fr.trans hfr (fun i hi => .inl (.inr (.inl hi)))⟩, ?_⟩
  · refine ⟨fun h1 => ?_, fun h1 => ⟨some ⟨rb, if cap - j.p = 1 then j.p * 2 else j.p * 2 + 2, none⟩, cap - j.p - 1, ?_⟩⟩
    · unfold restV
      rw [if_neg (by omega), show j.p * 2 + 2 = (j.p + 1) * 2 from by omega, show L - j.p - 1 = L - (j.p + 1) from by omega, show cap - j.p - 1 = cap - (j.p + 1) from by omega]
    · rw [show L - j.p - 1 = 0 from by omega]
  · unfold jcell
    match q, hq with
    | 0, _ => rfl
    | 1, _ => rfl
    | 2, _ => rfl
    | 3, _ => rfl
    | 4, _ => rfl
    | 5, _ => rfl
    | 6, _ => rfl
  · rw [hrow.cell (by omega)]; rfl

end Go.Proofs.YtdabcflpcklfiaaGreat
