import Derived.Test.YtdabcflpcklfiaaGreatA23
import Derived.Test.YtdabcflpcklfiaaGreatA27
import Derived.Test.YtdabcflpcklfiaaGreatA01
import Derived.Test.YtdabcflpcklfiaaGreatA26
/- A script that came in, opened. -/
namespace Go.Proofs.YtdabcflpcklfiaaGreat
open Go.RowKit Go.Deep Go.ChangeShapes Go.WideShapes

theorem Tryz.cells23 : Tryz.prog.cellsOf 23 = 1 := by kernel_rfl
end Go.Proofs.YtdabcflpcklfiaaGreat

/- Plain mathematics: what the law's own runs know, beside the kernel. -/
namespace Go.Proofs.YtdabcflpcklfiaaGreat.Cad

/-! ### what is held -/

/-- r is held at p just if p lies inside a section of r. -/
theorem held_inside {S : Sy} {t p r : Nat} {h : List Int} (hp : progB (S.K t) (S.N t) (S.L t) = true) (hl : p ≤ S.L t) (hh : stTo (S.K t) (S.N t) p = some h) : ((r : Int) ∈ h ↔ Inside S t p r) := by
  have hi := prog_inv _ _ p h hh
  constructor
  · intro hm
    obtain ⟨k, h1, h2, h3, _, h5, _⟩ := hi.held _ hm
    obtain ⟨e, hc⟩ := lock_closed hp (by omega) h2
    rw [h3] at hc
    refine ⟨k, e, hc, h1, ?_⟩
    rcases Nat.lt_or_ge e p with g | g
    · exact absurd ⟨hc.2.2.2.2.1, hc.2.2.2.2.2.1⟩ (h5 e hc.1 g)
    · exact g
  · rintro ⟨k, e, hc, hk, he⟩
    rcases hi.locks (r : Int) k hk hc.2.2.1 hc.2.2.2.1 with ⟨e', hc', _⟩ | ⟨hm, _⟩
    · exfalso
      have h1 := hc'.2.1
      exact hc.2.2.2.2.2.2 e' hc'.1 (by omega) ⟨hc'.2.2.2.2.1, hc'.2.2.2.2.2.1⟩
    · exact hm

end Go.Proofs.YtdabcflpcklfiaaGreat.Cad

/- Plain mathematics: the law's own runs, and what they are beside the kernel's jobs. -/
namespace Go.Proofs.YtdabcflpcklfiaaGreat.Cad

/-! ### what the law does -/

def sumL : List Int → Int
  | [] => 0
  | a :: r => a + sumL r

/-! ### beside the kernel -/

end Go.Proofs.YtdabcflpcklfiaaGreat.Cad

/- Plain mathematics: a tick, as the law goes along with it. -/
namespace Go.Proofs.YtdabcflpcklfiaaGreat.Cad

/-- Where a job comes to: to a Compute. -/
theorem place1 {K : Nat → Int} {L : Nat} {j : Jb} (hj : JbOk K L j) : j.p ≤ skip K 2 L j.p ∧ skip K 2 L j.p < L ∧ K (skip K 2 L j.p) = 1 ∧ ∀ i, j.p ≤ i → i < skip K 2 L j.p → K i = 2 := by
  have hlt := hj.lt
  obtain ⟨h1, h2, h3, h4⟩ := skip_spec K 2 (L := L) (p := j.p) (by omega)
  have hL : skip K 2 L j.p < L := by
    rcases Nat.lt_or_ge (skip K 2 L j.p) L with g | g
    · exact g
    · exfalso
      have := h3 (L - 1) (by omega) (by omega)
      rw [hj.last] at this
      omega
  refine ⟨h1, hL, ?_, h3⟩
  rcases hj.kind _ hL with g | g | g
  · exact g
  · exact absurd g (h4 hL)
  · exfalso
    by_cases e : skip K 2 L j.p = j.p
    · rw [e] at g; exact hj.here g
    · obtain ⟨q, hq⟩ : ∃ q, skip K 2 L j.p = q + 1 := ⟨skip K 2 L j.p - 1, by omega⟩
      have h5 := h3 q (by omega) (by omega)
      have h6 := hj.behind q (by omega) h5
      rw [hq] at g
      exact h6 g

end Go.Proofs.YtdabcflpcklfiaaGreat.Cad

/- Plain mathematics: what the law looks at in a tick is as it must be, and its runs stay beside the jobs. -/
namespace Go.Proofs.YtdabcflpcklfiaaGreat.Cad

end Go.Proofs.YtdabcflpcklfiaaGreat.Cad

/- Plain mathematics: the law's runs stay beside the jobs, behind a tick and behind an arrival. -/
namespace Go.Proofs.YtdabcflpcklfiaaGreat.Cad

end Go.Proofs.YtdabcflpcklfiaaGreat.Cad

/- Plain mathematics: a whole tick, and an arrival. -/
namespace Go.Proofs.YtdabcflpcklfiaaGreat.Cad

end Go.Proofs.YtdabcflpcklfiaaGreat.Cad

/- What was asked for is what was given and what is left. -/
namespace Go.Proofs.YtdabcflpcklfiaaGreat.Cad

theorem sumL_snoc (a : List Int) (i : Nat) (hi : i < a.length) : sumL (a.take (i + 1)) = sumL (a.take i) + a.getD i 0 := by
  induction a generalizing i with
  | nil => cases hi
  | cons b r ih =>
    cases i with
    | zero => show b + 0 = 0 + b; omega
    | succ i =>
      have := ih i (by simpa using hi)
      show b + sumL (r.take (i + 1)) = b + sumL (r.take i) + r.getD i 0
      omega

/-- A new job's demand is what its list has. -/
theorem dem_new {K N : Nat → Int} {l : List Int} : ∀ L, cmpTo K L ≤ l.length → demTo K (numOf K N (fun q => l.getD q 0)) L = sumL (l.take (cmpTo K L))
  | 0, _ => rfl
  | L + 1, h => by
    by_cases e : K L = 1
    · have hc : cmpTo K (L + 1) = cmpTo K L + 1 := if_pos e
      rw [hc] at h ⊢
      have ih := dem_new (K := K) (N := N) (l := l) L (by omega)
      have hd : demTo K (numOf K N (fun q => l.getD q 0)) (L + 1) = demTo K (numOf K N (fun q => l.getD q 0)) L + numOf K N (fun q => l.getD q 0) L := by
        show _ + (if K L = 1 then _ else 0) = _
        rw [if_pos e]
      have hn : numOf K N (fun q => l.getD q 0) L = l.getD (cmpTo K L) 0 := if_pos e
      rw [hd, ih, hn]
      exact (sumL_snoc l _ (by omega)).symm
    · have hc : cmpTo K (L + 1) = cmpTo K L := if_neg e
      rw [hc] at h ⊢
      have hd : demTo K (numOf K N (fun q => l.getD q 0)) (L + 1) = demTo K (numOf K N (fun q => l.getD q 0)) L := by
        show _ + (if K L = 1 then _ else 0) = _
        rw [if_neg e, Int.add_zero]
      rw [hd]
      exact dem_new L h

end Go.Proofs.YtdabcflpcklfiaaGreat.Cad

/- Plain mathematics of Runs: where a job is, told by its ticks alone. -/
namespace Go.Proofs.YtdabcflpcklfiaaGreat.Cad

/-- The place of a job that has had so many ticks. -/
def PL (K M : Nat → Int) (L p : Nat) (used : Int) : Prop :=
  (used = 0 ∧ p = 0) ∨ (0 < used ∧ p < L ∧ K p = 1 ∧ demTo K M p < used ∧ used < demTo K M (p + 1)) ∨
  (0 < used ∧ p < L ∧ K p ≠ 3 ∧ used = demTo K M p ∧ ∃ c, c < p ∧ K c = 1 ∧ ∀ i, c < i → i < p → K i = 3)

/-- A job beside its ticks. -/
structure UR (K M : Nat → Int) (L : Nat) (j : Jb) (used : Int) : Prop where
  pl : PL K M L j.p used
  rest : ∀ i, j.p < i → i < L → j.N i = M i
  here : j.N j.p = if K j.p = 1 then M j.p - (used - demTo K M j.p) else M j.p

theorem dem_comp {K M : Nat → Int} {k : Nat} (h : K k = 1) : demTo K M (k + 1) = demTo K M k + M k := by
  show demTo K M k + (if K k = 1 then M k else 0) = _
  rw [if_pos h]

/-- What is ahead of the next Compute. -/
theorem UR.next {K M : Nat → Int} {L : Nat} {j : Jb} {used : Int} (hj : JbOk K L j) (h : UR K M L j used) : j.N (skip K 2 L j.p) = M (skip K 2 L j.p) - (used - demTo K M (skip K 2 L j.p)) ∧ demTo K M (skip K 2 L j.p) ≤ used := by
  obtain ⟨p1, p2, p3, p4⟩ := place1 hj
  generalize skip K 2 L j.p = q at *
  by_cases e : q = j.p
  · subst e
    have hh := h.here
    rw [if_pos p3] at hh
    refine ⟨hh, ?_⟩
    rcases h.pl with ⟨h1, h2⟩ | ⟨h1, h2, h3, h4, h5⟩ | ⟨h1, h2, h3, h4, h5⟩
    · rw [h1, h2]; exact Int.le_refl _
    · omega
    · omega
  · have hk2 : K j.p = 2 := p4 j.p (Nat.le_refl _) (by omega)
    have hflat : demTo K M q = demTo K M j.p := by
      have := dem_flat (K := K) (N := M) (a := j.p) (q - j.p) (fun i h1 h2 => by rw [p4 i h1 (by omega)]; decide)
      rwa [show j.p + (q - j.p) = q by omega] at this
    have hu : used = demTo K M j.p := by
      rcases h.pl with ⟨h1, h2⟩ | ⟨h1, h2, h3, h4, h5⟩ | ⟨h1, h2, h3, h4, h5⟩
      · rw [h1, h2]; rfl
      · rw [hk2] at h3; cases h3
      · exact h4
    rw [h.rest q (by omega) p2, hflat]
    omega

/-- A tick more. -/
theorem UR.tick {K M : Nat → Int} {L t : Nat} {hh : Nat → Int} {j : Jb} {used : Int} (hj : JbOk K L j) (h : UR K M L j used) (hM : ∀ i, i < L → K i = 1 → 1 ≤ M i) :
    ((runK K L t hh j).2.p < L → UR K M L (runK K L t hh j).2 (used + 1) ∧ used + 1 < demTo K M L) ∧ ((runK K L t hh j).2.p = L → used + 1 = demTo K M L) := by
  obtain ⟨n1, n2⟩ := h.next hj
  obtain ⟨p1, p2, p3, p4⟩ := place1 hj
  have hcomp := hj.comp _ p1 p2 p3
  have hmono : ∀ a, a ≤ L → demTo K M a ≤ demTo K M L := by
    intro a ha
    have : ∀ d, a + d ≤ L → demTo K M a ≤ demTo K M (a + d) := by
      intro d
      induction d with
      | zero => intro _; exact Int.le_refl _
      | succ d ih =>
        intro hd
        have := ih (by omega)
        have e : demTo K M (a + (d + 1)) = demTo K M (a + d) + (if K (a + d) = 1 then M (a + d) else 0) := rfl
        rw [e]
        by_cases g : K (a + d) = 1
        · have := hM (a + d) (by omega) g
          rw [if_pos g]; omega
        · rw [if_neg g]; omega
    have := this (L - a) (by omega)
    rwa [show a + (L - a) = L by omega] at this
  have hlast : ∀ a, a < L → demTo K M a < demTo K M L := by
    intro a ha
    have h1 : demTo K M a ≤ demTo K M (L - 1) := by
      have : ∀ d, a + d ≤ L - 1 → demTo K M a ≤ demTo K M (a + d) := by
        intro d
        induction d with
        | zero => intro _; exact Int.le_refl _
        | succ d ih =>
          intro hd
          have := ih (by omega)
          have e : demTo K M (a + (d + 1)) = demTo K M (a + d) + (if K (a + d) = 1 then M (a + d) else 0) := rfl
          rw [e]
          by_cases g : K (a + d) = 1
          · have := hM (a + d) (by omega) g
            rw [if_pos g]; omega
          · rw [if_neg g]; omega
      have := this (L - 1 - a) (by omega)
      rwa [show a + (L - 1 - a) = L - 1 by omega] at this
    have h2 : demTo K M (L - 1 + 1) = demTo K M (L - 1) + M (L - 1) := dem_comp hj.last
    rw [show L - 1 + 1 = L by omega] at h2
    have := hM (L - 1) (by omega) hj.last
    omega
  unfold runK
  simp only []
  generalize skip K 2 L j.p = q at *
  have hdq := dem_comp (M := M) p3
  by_cases hx : 0 < j.N q - 1
  · rw [if_pos hx]
    refine ⟨fun _ => ⟨⟨.inr (.inl ⟨?_, p2, p3, ?_, ?_⟩), fun i h1 h2 => ?_, ?_⟩, ?_⟩, fun e => ?_⟩
    · have : 0 ≤ used := by
        rcases h.pl with ⟨g1, _⟩ | ⟨g1, _⟩ | ⟨g1, _⟩ <;> omega
      omega
    · show demTo K M q < used + 1; omega
    · show used + 1 < demTo K M (q + 1); omega
    · have h1' : q < i := h1
      show upd j.N q (j.N q - 1) i = M i
      rw [upd_other _ _ (by omega)]
      exact h.rest i (by omega) h2
    · show upd j.N q (j.N q - 1) q = if K q = 1 then M q - (used + 1 - demTo K M q) else M q
      rw [upd_same, if_pos p3]
      omega
    · have := hmono (q + 1) (by omega); omega
    · have e' : q = L := e
      omega
  · rw [if_neg hx]
    obtain ⟨s1, s2, s3, s4⟩ := skip_spec K 3 (L := L) (p := q + 1) (by omega)
    show (skip K 3 L (q + 1) < L → _) ∧ (skip K 3 L (q + 1) = L → _)
    generalize hp2 : skip K 3 L (q + 1) = p' at *
    have hflat : demTo K M p' = demTo K M (q + 1) := by
      have := dem_flat (K := K) (N := M) (a := q + 1) (p' - (q + 1)) (fun i h1 h2 => by rw [s3 i h1 (by omega)]; decide)
      rwa [show q + 1 + (p' - (q + 1)) = p' by omega] at this
    have hu : used + 1 = demTo K M p' := by omega
    refine ⟨fun hlt => ⟨⟨.inr (.inr ⟨?_, hlt, s4 hlt, hu, q, ?_, p3, fun i h1 h2 => ?_⟩), fun i h1 h2 => ?_, ?_⟩, ?_⟩, fun e => by rw [e] at hu; exact hu⟩
    · have : 0 ≤ used := by
        rcases h.pl with ⟨g1, _⟩ | ⟨g1, _⟩ | ⟨g1, _⟩ <;> omega
      omega
    · show q < p'; omega
    · have h2' : i < p' := h2
      exact s3 i (by omega) h2'
    · have h1' : p' < i := h1
      show upd j.N q (j.N q - 1) i = M i
      rw [upd_other _ _ (by omega)]
      exact h.rest i (by omega) h2
    · show upd j.N q (j.N q - 1) p' = if K p' = 1 then M p' - (used + 1 - demTo K M p') else M p'
      rw [upd_other _ _ (by omega), h.rest p' (by omega) hlt]
      split <;> omega
    · have := hlast p' hlt; omega

/-- A new job. -/
theorem UR.new (K M : Nat → Int) (L : Nat) (j : Jb) (hp : j.p = 0) (hN : ∀ i, j.N i = M i) : UR K M L j 0 where
  pl := .inl ⟨rfl, hp⟩
  rest i _ _ := hN i
  here := by
    rw [hN, hp]
    split
    · show M 0 = M 0 - (0 - 0); omega
    · rfl

end Go.Proofs.YtdabcflpcklfiaaGreat.Cad

/- Plain mathematics of Runs: whom the document's kernel takes. -/
namespace Go.Proofs.YtdabcflpcklfiaaGreat.Cad

/-- A task's active priority, and whether it holds something. -/
def actP (S : Sy) (m : Mc) (t : Nat) : Int := (actTo S m.hold t 8).1
def hasH (S : Sy) (m : Mc) (t : Nat) : Int := (actTo S m.hold t 8).2

/-- The document's choice among the first k tasks. -/
def bestTo (S : Sy) (m : Mc) : Nat → Int
  | 0 => -1
  | k + 1 => if readyB m k = true then (if bestTo S m k < 0 then (k : Int) else if actP S m (bestTo S m k).toNat < actP S m k ∨ (actP S m k = actP S m (bestTo S m k).toNat ∧ 0 < hasH S m k) then (k : Int) else bestTo S m k) else bestTo S m k

theorem two_hold {S : Sy} {m : Mc} (hs : SyOk S) (hl : LkInv S m) {a b : Nat} (ha : a < S.n) (hb : b < S.n) (hne : a ≠ b) (h1 : 0 < hasH S m a) (h2 : 0 < hasH S m b) : actP S m a ≠ actP S m b := by
  have holds : ∀ c : Nat, 0 < hasH S m c → ∃ r, r < 8 ∧ m.hold r = (c : Int) := by
    intro c hc
    obtain ⟨_, _, _, _, c5⟩ := act_spec S m.hold c 8
    by_cases g : ∃ r, r < 8 ∧ m.hold r = (c : Int)
    · exact g
    · have hc' : 0 < (actTo S m.hold c 8).2 := hc
      have := (c5 g).1
      omega
  obtain ⟨ra, hra, ea⟩ := holds a h1
  obtain ⟨rb, hrb, eb⟩ := holds b h2
  have low : ∀ c d : Nat, c < S.n → (∀ r, r < 8 → m.hold r = (c : Int) → S.C r < S.Z d) → (∃ r, r < 8 ∧ m.hold r = (c : Int)) → actP S m c < actP S m d := by
    intro c d hc hall hex
    obtain ⟨_, _, c3, _⟩ := act_spec S m.hold c 8
    obtain ⟨d1, _⟩ := act_spec S m.hold d 8
    show (actTo S m.hold c 8).1 < (actTo S m.hold d 8).1
    rcases c3 with e | ⟨r, hr, er, e⟩
    · obtain ⟨r, hr, er⟩ := hex
      have h3 := hl.ceil hs hc hr er
      have h4 := hall r hr er
      omega
    · have := hall r hr er
      omega
  rcases hl.pair a b ha hb hne ⟨ra, hra, ea⟩ ⟨rb, hrb, eb⟩ with g | g
  · have := low a b ha g ⟨ra, hra, ea⟩; omega
  · have := low b a hb g ⟨rb, hrb, eb⟩; omega

theorem best_ch {S : Sy} {m : Mc} (hs : SyOk S) (ho : Ok S m) (hl : LkInv S m) : ∀ k, k ≤ S.n → bestTo S m k = (chTo S m k).1
  | 0, _ => rfl
  | k + 1, hk => by
    have ih := best_ch hs ho hl k (by omega)
    have e1 : bestTo S m (k + 1) = if readyB m k = true then (if bestTo S m k < 0 then (k : Int) else if actP S m (bestTo S m k).toNat < actP S m k ∨ (actP S m k = actP S m (bestTo S m k).toNat ∧ 0 < hasH S m k) then (k : Int) else bestTo S m k) else bestTo S m k := rfl
    have e2 : chTo S m (k + 1) = if readyB m k = true ∧ (chTo S m k).2 < rank S m.hold k then ((k : Int), rank S m.hold k) else chTo S m k := rfl
    rw [e1, e2, ih]
    by_cases hr : readyB m k = true
    · rw [if_pos hr]
      have hrk := rank_range ho (t := k) (by omega) m.hold
      rcases chTo_range S m k with ⟨g1, g2⟩ | ⟨b, hb, g1, g2, g3⟩
      · rw [g1, if_pos (by omega), if_pos ⟨hr, by omega⟩]
      · rw [g1, if_neg (by omega), g3, Int.toNat_natCast]
        have hrg := fun c (hc : c < S.n) => actTo_range (h := m.hold) (ho.prio c hc) (fun r hr => ho.ceil r hr) 8 (Nat.le_refl _)
        have rb := hrg b (by omega)
        have rk := hrg k (by omega)
        have eb : rank S m.hold b = 2 * actP S m b + hasH S m b := rfl
        have ek : rank S m.hold k = 2 * actP S m k + hasH S m k := rfl
        have hb1 : 0 ≤ hasH S m b ∧ hasH S m b ≤ 1 := ⟨rb.2.2.1, rb.2.2.2⟩
        have hk1 : 0 ≤ hasH S m k ∧ hasH S m k ≤ 1 := ⟨rk.2.2.1, rk.2.2.2⟩
        by_cases c : actP S m b < actP S m k ∨ (actP S m k = actP S m b ∧ 0 < hasH S m k)
        · have hlt : rank S m.hold b < rank S m.hold k := by
            rcases c with c | ⟨c1, c2⟩
            · omega
            · by_cases hh : 0 < hasH S m b
              · exact absurd c1 (two_hold hs hl (a := k) (b := b) (by omega) (by omega) (by omega) c2 hh)
              · omega
          rw [if_pos c, if_pos ⟨hr, hlt⟩]
        · have hn : ¬ (readyB m k = true ∧ rank S m.hold b < rank S m.hold k) := by
            rintro ⟨_, c'⟩
            apply c
            omega
          rw [if_neg c, if_neg hn, g1]
    · rw [if_neg hr, if_neg (fun h => hr h.1)]

end Go.Proofs.YtdabcflpcklfiaaGreat.Cad
