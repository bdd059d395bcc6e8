import Derived.Test.YtdabcflpcklfiaaMath2
/- Plain mathematics: the kernel as a machine of numbers: what arriving and a tick do to it. -/
namespace Go.Proofs.Ytdabcflpcklfiaa.Cad

/-- A job that is not done: where it stands in its program, and the numbers of its steps as they are now. -/
structure Jb where
  arr : Int
  rel : Int
  left : Int
  ord : Int
  p : Nat
  N : Nat → Int

/-- A job that is done. -/
structure Rc where
  task : Int
  arr : Int
  rel : Int
  done : Int
  left : Int
  ord : Int

/-- What of a kernel does not change: tasks, priorities, ceilings. -/
structure Sy where
  n : Nat
  P : Nat → Int
  J : Nat → Int
  Z : Nat → Int
  L : Nat → Nat
  K : Nat → Nat → Int
  N : Nat → Nat → Int
  C : Nat → Int

structure Mc where
  now : Int
  idle : Int
  arrd : Int
  done : Nat → Nat
  last : Nat → Int
  q : Nat → List Jb
  hold : Nat → Int
  kept : List Rc

def upd {α : Type} (f : Nat → α) (i : Nat) (v : α) : Nat → α := fun j => if j = i then v else f j

theorem upd_same {α : Type} (f : Nat → α) (i : Nat) (v : α) : upd f i v i = v := by simp [upd]
theorem upd_other {α : Type} (f : Nat → α) {i j : Nat} (v : α) (h : j ≠ i) : upd f i v j = f j := by simp [upd, h]

/-- The active priority, and whether something is held, as far as resource r. -/
def actTo (S : Sy) (h : Nat → Int) (t : Nat) : Nat → Int × Int
  | 0 => (S.Z t, 0)
  | r + 1 => if h r = t then (max (actTo S h t r).1 (S.C r), 1) else actTo S h t r

def rank (S : Sy) (h : Nat → Int) (t : Nat) : Int := 2 * (actTo S h t 8).1 + (actTo S h t 8).2

def readyB (m : Mc) (t : Nat) : Bool := match m.q t with
  | [] => false
  | j :: _ => decide (j.rel ≤ m.now)

/-- The task that has the tick, and its rank, of the first k. -/
def chTo (S : Sy) (m : Mc) : Nat → Int × Int
  | 0 => (-1, -1)
  | k + 1 => if readyB m k = true ∧ (chTo S m k).2 < rank S m.hold k then ((k : Int), rank S m.hold k) else chTo S m k

/-- The first step from p on that is not of kind c. -/
def skipF (K : Nat → Int) (c : Int) (L : Nat) : Nat → Nat → Nat
  | 0, p => p
  | f + 1, p => if p < L ∧ K p = c then skipF K c L f (p + 1) else p
def skip (K : Nat → Int) (c : Int) (L p : Nat) : Nat := skipF K c L (L - p) p

/-- The resources of d steps from p on go to v. -/
def setTo (N : Nat → Int) (v : Int) (h : Nat → Int) (p : Nat) : Nat → (Nat → Int)
  | 0 => h
  | d + 1 => upd (setTo N v h p d) (N (p + d)).toNat v

/-- One tick of a job of task t: who holds what, and the job. -/
def runK (K : Nat → Int) (L : Nat) (t : Nat) (h : Nat → Int) (j : Jb) : (Nat → Int) × Jb :=
  let p1 := skip K 2 L j.p
  let h1 := setTo j.N t h j.p (p1 - j.p)
  let x := j.N p1 - 1
  if 0 < x then (h1, { j with left := j.left - 1, p := p1, N := upd j.N p1 x })
  else
    let p2 := skip K 3 L (p1 + 1)
    (setTo j.N (-1) h1 (p1 + 1) (p2 - (p1 + 1)), { j with left := j.left - 1, p := p2, N := upd j.N p1 x })

def runJ (S : Sy) (t : Nat) (h : Nat → Int) (j : Jb) : (Nat → Int) × Jb := runK (S.K t) (S.L t) t h j

def keep (l : List Rc) (r : Rc) : List Rc := (if l.length = 40 then l.tail else l) ++ [r]

/-- A tick in which task t has its first job j run, r behind it. -/
def tickAt (S : Sy) (m : Mc) (t : Nat) (j : Jb) (r : List Jb) : Mc × Bool :=
  let x := runJ S t m.hold j
  if x.2.p < S.L t then ({ m with now := m.now + 1, hold := x.1, q := upd m.q t (x.2 :: r) }, false)
  else ({ m with now := m.now + 1, hold := x.1, q := upd m.q t r, done := upd m.done t (m.done t + 1), kept := keep m.kept ⟨t, j.arr, j.rel, m.now + 1, x.2.left, j.ord⟩ }, true)

def tick (S : Sy) (m : Mc) : Mc × Int × Bool :=
  let c := (chTo S m S.n).1
  match m.q c.toNat with
  | [] => ({ m with now := m.now + 1, idle := m.idle + 1 }, -1, false)
  | j :: r => if c < 0 then ({ m with now := m.now + 1, idle := m.idle + 1 }, -1, false) else ((tickAt S m c.toNat j r).1, c, (tickAt S m c.toNat j r).2)

/-- How many Computes there are ahead of step i. -/
def cmpTo (K : Nat → Int) : Nat → Nat
  | 0 => 0
  | i + 1 => if K i = 1 then cmpTo K i + 1 else cmpTo K i

def Fits (K N : Nat → Int) (L : Nat) (D : Nat → Int) (d : Nat) : Prop :=
  (∀ i, i < L → K i = 1 → cmpTo K i < d ∧ 1 ≤ D (cmpTo K i) ∧ D (cmpTo K i) ≤ N i) ∧ cmpTo K L = d

instance (K N : Nat → Int) (L : Nat) (D : Nat → Int) (d : Nat) : Decidable (Fits K N L D d) := by unfold Fits; exact inferInstance

/-- The numbers of a new job's steps. -/
def numOf (K N D : Nat → Int) (i : Nat) : Int := if K i = 1 then D (cmpTo K i) else N i

def refuse (S : Sy) (m : Mc) (t : Nat) (jit : Int) (D : Nat → Int) (d : Nat) : Int :=
  if 0 < m.done t + (m.q t).length ∧ m.now - m.last t < S.P t then 6
  else if jit < 0 ∨ S.J t < jit then 7
  else if ¬ Fits (S.K t) (S.N t) (S.L t) D d then 8
  else if 8 ≤ (m.q t).length then 9
  else 0

def jobOf (S : Sy) (m : Mc) (t : Nat) (jit : Int) (D : Nat → Int) : Jb :=
  { arr := m.now, rel := m.now + jit, left := demTo (S.K t) (numOf (S.K t) (S.N t) D) (S.L t), ord := m.arrd, p := 0, N := numOf (S.K t) (S.N t) D }

def added (S : Sy) (m : Mc) (t : Nat) (jit : Int) (D : Nat → Int) : Mc :=
  { m with arrd := m.arrd + 1, last := upd m.last t m.now, q := upd m.q t (m.q t ++ [jobOf S m t jit D]) }

def arrive (S : Sy) (m : Mc) (t : Int) (jit : Int) (D : Nat → Int) (d : Nat) : Mc × Int :=
  if t < 0 ∨ (S.n : Int) ≤ t then (m, 5)
  else if refuse S m t.toNat jit D d ≠ 0 then (m, refuse S m t.toNat jit D d)
  else (added S m t.toNat jit D, 0)

/-- The ceilings as the program raises them, by the first i tasks and k steps of the next. -/
def ceilK (K N : Nat → Int) (z : Int) (c : Nat → Int) : Nat → (Nat → Int)
  | 0 => c
  | k + 1 => if K k = 2 then upd (ceilK K N z c k) (N k).toNat (max (ceilK K N z c k (N k).toNat) z) else ceilK K N z c k
def ceilI (K N : Nat → Nat → Int) (L : Nat → Nat) (Z : Nat → Int) : Nat → (Nat → Int)
  | 0 => fun _ => 0
  | i + 1 => ceilK (K i) (N i) (Z i) (ceilI K N L Z i) (L i)

def start : Mc := { now := 0, idle := 0, arrd := 0, done := fun _ => 0, last := fun _ => 0, q := fun _ => [], hold := fun _ => -1, kept := [] }

/-- What holds of a job's steps from where it stands. -/
structure JbOk (K : Nat → Int) (L : Nat) (j : Jb) : Prop where
  lt : j.p < L
  last : K (L - 1) = 1
  here : K j.p ≠ 3
  kind : ∀ i, i < L → K i = 1 ∨ K i = 2 ∨ K i = 3
  comp : ∀ i, j.p ≤ i → i < L → K i = 1 → 1 ≤ j.N i ∧ j.N i ≤ 100
  res : ∀ i, j.p ≤ i → i < L → K i ≠ 1 → 0 ≤ j.N i ∧ j.N i ≤ 7
  behind : ∀ i, i + 1 < L → K i = 2 → K (i + 1) ≠ 3
  left : j.left = demTo K j.N L - demTo K j.N j.p

/-- What holds of the numbers, so that nothing overflows. -/
structure Ok (S : Sy) (m : Mc) : Prop where
  one : 1 ≤ S.n
  eight : S.n ≤ 8
  prio : ∀ t, t < S.n → 0 ≤ S.Z t ∧ S.Z t < 8
  ceil : ∀ r, r < 8 → 0 ≤ S.C r ∧ S.C r < 8
  len : ∀ t, t < S.n → 1 ≤ S.L t ∧ S.L t ≤ 16
  now0 : 0 ≤ m.now
  now1 : m.now ≤ 1000000000000000000
  idle : 0 ≤ m.idle ∧ m.idle ≤ m.now
  arrd : 0 ≤ m.arrd ∧ m.arrd ≤ 1000000000000000000
  per : ∀ t, t < S.n → 1 ≤ S.P t ∧ S.P t ≤ 10000 ∧ 0 ≤ S.J t ∧ S.J t ≤ 10000
  few : ∀ t, t < S.n → (m.q t).length ≤ 8
  many : ∀ t, t < S.n → (m.done t : Int) + ((m.q t).length : Int) ≤ m.arrd
  lastn : ∀ t, t < S.n → 0 ≤ m.last t ∧ m.last t ≤ m.now
  job : ∀ t, t < S.n → ∀ j ∈ m.q t, JbOk (S.K t) (S.L t) j ∧ 0 ≤ j.arr ∧ j.arr ≤ m.now ∧ 0 ≤ j.rel ∧ j.rel ≤ m.now + 10000 ∧ 0 ≤ j.ord ∧ j.ord < m.arrd
  keptn : m.kept.length ≤ 40
  steps : ∀ t, t < S.n → (∀ i, i < S.L t → S.K t i = 1 ∨ S.K t i = 2 ∨ S.K t i = 3) ∧ S.K t (S.L t - 1) = 1 ∧ S.K t 0 ≠ 3 ∧ (∀ i, i + 1 < S.L t → S.K t i = 2 → S.K t (i + 1) ≠ 3) ∧ (∀ i, i < S.L t → S.K t i ≠ 1 → 0 ≤ S.N t i ∧ S.N t i ≤ 7) ∧ (∀ i, i < S.L t → S.K t i = 1 → 1 ≤ S.N t i ∧ S.N t i ≤ 100)

/-! ### laws -/

theorem skipF_spec (K : Nat → Int) (c : Int) (L : Nat) : ∀ f p, f = L - p → p ≤ L → p ≤ skipF K c L f p ∧ skipF K c L f p ≤ L ∧ (∀ i, p ≤ i → i < skipF K c L f p → K i = c) ∧ (skipF K c L f p < L → K (skipF K c L f p) ≠ c)
  | 0, p, hf, hp => by
    have : p = L := by omega
    subst this
    exact ⟨Nat.le_refl _, Nat.le_refl _, fun i h1 h2 => by simp [skipF] at h2; omega, fun h => by simp [skipF] at h⟩
  | f + 1, p, hf, hp => by
    unfold skipF
    by_cases hc : p < L ∧ K p = c
    · rw [if_pos hc]
      obtain ⟨h1, h2, h3, h4⟩ := skipF_spec K c L f (p + 1) (by omega) (by omega)
      refine ⟨by omega, h2, fun i hi hl => ?_, h4⟩
      by_cases e : i = p
      · rw [e]; exact hc.2
      · exact h3 i (by omega) hl
    · rw [if_neg hc]
      exact ⟨Nat.le_refl _, hp, fun i h1 h2 => by omega, fun h e => hc ⟨h, e⟩⟩

theorem skip_spec (K : Nat → Int) (c : Int) {L p : Nat} (hp : p ≤ L) : p ≤ skip K c L p ∧ skip K c L p ≤ L ∧ (∀ i, p ≤ i → i < skip K c L p → K i = c) ∧ (skip K c L p < L → K (skip K c L p) ≠ c) :=
  skipF_spec K c L (L - p) p rfl hp

/-- What it is, is told by what it is like. -/
theorem skip_eq {K : Nat → Int} {c : Int} {L p x : Nat} (hp : p ≤ x) (hx : x ≤ L) (h : ∀ i, p ≤ i → i < x → K i = c) (hn : x < L → K x ≠ c) : x = skip K c L p := by
  obtain ⟨h1, h2, h3, h4⟩ := skip_spec K c (L := L) (p := p) (by omega)
  rcases Nat.lt_trichotomy x (skip K c L p) with hl | he | hl
  · exact absurd (h3 x hp hl) (hn (by omega))
  · exact he
  · exact absurd (h _ h1 hl) (h4 (by omega))

theorem chTo_range (S : Sy) (m : Mc) : ∀ k, (chTo S m k).1 = -1 ∧ (chTo S m k).2 = -1 ∨ ∃ t : Nat, t < k ∧ (chTo S m k).1 = (t : Int) ∧ readyB m t = true ∧ (chTo S m k).2 = rank S m.hold t
  | 0 => .inl ⟨rfl, rfl⟩
  | k + 1 => by
    unfold chTo
    by_cases h : readyB m k = true ∧ (chTo S m k).2 < rank S m.hold k
    · rw [if_pos h]; exact .inr ⟨k, by omega, rfl, h.1, rfl⟩
    · rw [if_neg h]
      rcases chTo_range S m k with h1 | ⟨t, h1, h2, h3, h4⟩
      · exact .inl h1
      · exact .inr ⟨t, by omega, h2, h3, h4⟩

theorem actTo_range {S : Sy} {h : Nat → Int} {t : Nat} (hz : 0 ≤ S.Z t ∧ S.Z t < 8) (hc : ∀ r, r < 8 → 0 ≤ S.C r ∧ S.C r < 8) : ∀ r, r ≤ 8 → 0 ≤ (actTo S h t r).1 ∧ (actTo S h t r).1 < 8 ∧ 0 ≤ (actTo S h t r).2 ∧ (actTo S h t r).2 ≤ 1
  | 0, _ => by simp [actTo]; omega
  | r + 1, hr => by
    have ih := actTo_range hz hc r (by omega) (h := h)
    have hcr := hc r (by omega)
    unfold actTo
    split
    · refine ⟨?_, ?_, by simp, by simp⟩
      · show 0 ≤ max _ _; omega
      · show max _ _ < 8; omega
    · exact ih

theorem rank_range {S : Sy} {m : Mc} (hk : Ok S m) {t : Nat} (ht : t < S.n) (h : Nat → Int) : 0 ≤ rank S h t ∧ rank S h t < 16 := by
  have := actTo_range (h := h) (hk.prio t ht) hk.ceil 8 (Nat.le_refl _)
  unfold rank
  omega

end Go.Proofs.Ytdabcflpcklfiaa.Cad
