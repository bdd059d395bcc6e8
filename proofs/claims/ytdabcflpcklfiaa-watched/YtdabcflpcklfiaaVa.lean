import Derived.Test.YtdabcflpcklfiaaRb
/- Plain mathematics: what the law's own runs know, beside the kernel. -/
namespace Go.Proofs.Ytdabcflpcklfiaa.Cad

/-- A run that the law goes along with. -/
structure Wr where
  ready : Int
  left : List Int
  step : Nat
  held : List Int
  since : List Int
  bk : Int
  fr : Int

/-- What the law itself knows. -/
structure Wt where
  now : Int
  idle : Int
  given : Int
  asked : Int
  runs : Nat → List Wr

/-- The numbers of the Computes of d steps from p on. -/
def cmpsF (K N : Nat → Int) : Nat → Nat → List Int
  | 0, _ => []
  | d + 1, p => if K p = 1 then N p :: cmpsF K N d (p + 1) else cmpsF K N d (p + 1)

def cmpsFrom (K N : Nat → Int) (L p : Nat) : List Int := cmpsF K N (L - p) p

theorem cmps_end (K N : Nat → Int) {L p : Nat} (h : L ≤ p) : cmpsFrom K N L p = [] := by
  unfold cmpsFrom
  rw [show L - p = 0 from by omega]
  rfl

theorem cmps_here {K N : Nat → Int} {L p : Nat} (hp : p < L) (h1 : K p = 1) : cmpsFrom K N L p = N p :: cmpsFrom K N L (p + 1) := by
  unfold cmpsFrom
  rw [show L - p = (L - (p + 1)) + 1 from by omega]
  simp only [cmpsF]
  rw [if_pos h1]

theorem cmps_skip1 {K N : Nat → Int} {L p : Nat} (hp : p < L) (h1 : K p ≠ 1) : cmpsFrom K N L p = cmpsFrom K N L (p + 1) := by
  unfold cmpsFrom
  rw [show L - p = (L - (p + 1)) + 1 from by omega]
  simp only [cmpsF]
  rw [if_neg h1]

theorem cmps_skip {K N : Nat → Int} {L : Nat} : ∀ d p, p + d ≤ L → (∀ i, p ≤ i → i < p + d → K i ≠ 1) → cmpsFrom K N L p = cmpsFrom K N L (p + d)
  | 0, p, _, _ => rfl
  | d + 1, p, hl, h => by
    rw [cmps_skip1 (by omega) (h p (Nat.le_refl _) (by omega)), cmps_skip d (p + 1) (by omega) (fun i h1 h2 => h i (by omega) (by omega))]
    congr 1
    omega

theorem cmpsF_congr {K N N' : Nat → Int} : ∀ d p, (∀ i, p ≤ i → i < p + d → K i = 1 → N' i = N i) → cmpsF K N' d p = cmpsF K N d p
  | 0, _, _ => rfl
  | d + 1, p, h => by
    simp only [cmpsF]
    rw [cmpsF_congr d (p + 1) (fun i h1 h2 => h i (by omega) (by omega))]
    by_cases h1 : K p = 1
    · rw [if_pos h1, if_pos h1, h p (Nat.le_refl _) (by omega) h1]
    · rw [if_neg h1, if_neg h1]

theorem cmps_congr {K N N' : Nat → Int} {L p : Nat} (h : ∀ i, p ≤ i → i < L → K i = 1 → N' i = N i) : cmpsFrom K N' L p = cmpsFrom K N L p :=
  cmpsF_congr _ _ (fun i h1 h2 => h i h1 (by omega))

/-- The demands of a new job. -/
theorem cmps_new {K N : Nat → Int} {L : Nat} {l : List Int} (hl : l.length = cmpTo K L) : ∀ d p, p + d = L → cmpsFrom K (numOf K N (fun q => l.getD q 0)) L p = l.drop (cmpTo K p)
  | 0, p, hp => by
    rw [cmps_end _ _ (by omega), show p = L from by omega, ← hl, List.drop_length]
  | d + 1, p, hp => by
    have ih := cmps_new (N := N) hl d (p + 1) (by omega)
    have hs : cmpTo K (p + 1) = if K p = 1 then cmpTo K p + 1 else cmpTo K p := rfl
    by_cases h1 : K p = 1
    · rw [cmps_here (by omega) h1, ih, hs, if_pos h1]
      have hm := cmp_mono K d (p + 1)
      rw [show p + 1 + d = L from by omega, hs, if_pos h1] at hm
      have hlt : cmpTo K p < l.length := by omega
      rw [List.drop_eq_getElem_cons hlt]
      congr 1
      unfold numOf
      rw [if_pos h1]
      simp [List.getD, hlt]
    · rw [cmps_skip1 (by omega) h1, ih, hs, if_neg h1]

/-- Behind the place of a Compute there is something left. -/
theorem cmps_ne {K N : Nat → Int} {L p : Nat} (hp : p < L) (hl : K (L - 1) = 1) : cmpsFrom K N L p ≠ [] := by
  have main : ∀ d p, p + d + 1 = L → cmpsFrom K N L p ≠ [] := by
    intro d
    induction d with
    | zero => intro p hp; rw [cmps_here (by omega) (by rw [show p = L - 1 from by omega]; exact hl)]; simp
    | succ d ih =>
      intro p hp
      by_cases h1 : K p = 1
      · rw [cmps_here (by omega) h1]; simp
      · rw [cmps_skip1 (by omega) h1]; exact ih (p + 1) (by omega)
  exact main (L - p - 1) p (by omega)

/-! ### what is held -/

/-- The numbers of d steps from p on. -/
def locksF (N : Nat → Int) (p : Nat) : Nat → List Int
  | 0 => []
  | d + 1 => locksF N p d ++ [N (p + d)]

theorem locksF_len (N : Nat → Int) (p : Nat) : ∀ d, (locksF N p d).length = d
  | 0 => rfl
  | d + 1 => by simp [locksF, locksF_len N p d]

theorem locksF_mem {N : Nat → Int} {p : Nat} {x : Int} : ∀ d, x ∈ locksF N p d ↔ ∃ k, p ≤ k ∧ k < p + d ∧ N k = x
  | 0 => by simp [locksF]; omega
  | d + 1 => by
    simp only [locksF, List.mem_append, List.mem_singleton]
    rw [locksF_mem d]
    constructor
    · rintro (⟨k, h1, h2, h3⟩ | h)
      · exact ⟨k, h1, by omega, h3⟩
      · exact ⟨p + d, by omega, by omega, h.symm⟩
    · rintro ⟨k, h1, h2, h3⟩
      by_cases e : k = p + d
      · right; rw [← h3, e]
      · left; exact ⟨k, h1, by omega, h3⟩

theorem st_some_of {K N : Nat → Int} {L e : Nat} (h : progB K N L = true) (he : e ≤ L) : ∃ s, stTo K N e = some s := st_some h he

/-- Locks are laid on top. -/
theorem st_locks {K N : Nat → Int} {L p : Nat} {h : List Int} (hp : progB K N L = true) (hh : stTo K N p = some h) : ∀ d, p + d ≤ L → (∀ i, p ≤ i → i < p + d → K i = 2) → stTo K N (p + d) = some (h ++ locksF N p d)
  | 0, _, _ => by simpa [locksF] using hh
  | d + 1, hl, hk => by
    have ih := st_locks hp hh d (by omega) (fun i h1 h2 => hk i h1 (by omega))
    obtain ⟨s, hs⟩ := st_some hp (e := p + d + 1) (by omega)
    rw [show p + (d + 1) = p + d + 1 from by omega]
    have h2 := hk (p + d) (by omega) (by omega)
    have e : stTo K N (p + d + 1) = stepF (h ++ locksF N p d) (prevLock K (p + d)) (K (p + d)) (N (p + d)) := by
      show (stTo K N (p + d)).bind _ = _
      rw [ih]; rfl
    rw [e] at hs ⊢
    unfold stepF at hs ⊢
    rw [if_neg (by omega), if_pos h2] at hs ⊢
    split at hs
    · rename_i hc
      rw [if_pos hc]
      simp [locksF]
    · cases hs

theorem st_comp {K N : Nat → Int} {L p : Nat} {h : List Int} (hp : progB K N L = true) (hh : stTo K N p = some h) (hl : p < L) (hk : K p = 1) : stTo K N (p + 1) = some h := by
  obtain ⟨s, hs⟩ := st_some hp (e := p + 1) (by omega)
  have e : stTo K N (p + 1) = stepF h (prevLock K p) (K p) (N p) := by
    show (stTo K N p).bind _ = _
    rw [hh]; rfl
  rw [e] at hs ⊢
  unfold stepF at hs ⊢
  rw [if_pos hk] at hs ⊢
  split at hs
  · rename_i hc; rw [if_pos hc]
  · cases hs

/-- The list without its last d. -/
def cutN {α : Type} (l : List α) (d : Nat) : List α := l.take (l.length - d)

theorem st_unlocks {K N : Nat → Int} {L p : Nat} {h : List Int} (hp : progB K N L = true) (hh : stTo K N p = some h) : ∀ d, p + d ≤ L → (∀ i, p ≤ i → i < p + d → K i = 3) → stTo K N (p + d) = some (cutN h d) ∧ d ≤ h.length
  | 0, _, _ => by simpa [cutN] using hh
  | d + 1, hl, hk => by
    obtain ⟨ih, ihl⟩ := st_unlocks hp hh d (by omega) (fun i h1 h2 => hk i h1 (by omega))
    obtain ⟨s, hs⟩ := st_some hp (e := p + d + 1) (by omega)
    rw [show p + (d + 1) = p + d + 1 from by omega]
    have h2 := hk (p + d) (by omega) (by omega)
    have e : stTo K N (p + d + 1) = stepF (cutN h d) (prevLock K (p + d)) (K (p + d)) (N (p + d)) := by
      show (stTo K N (p + d)).bind _ = _
      rw [ih]; rfl
    rw [e] at hs ⊢
    unfold stepF at hs ⊢
    rw [if_neg (by omega), if_neg (by omega), if_pos h2] at hs ⊢
    split at hs
    · rename_i hc
      rw [if_pos hc]
      have hne : cutN h d ≠ [] := fun e0 => by rw [e0] at hc; simp at hc
      have hlen : (cutN h d).length = h.length - d := by unfold cutN; rw [List.length_take]; omega
      have h0 : 0 < (cutN h d).length := List.length_pos_iff.2 hne
      refine ⟨?_, by omega⟩
      congr 1
      unfold cutN
      rw [List.dropLast_eq_take, List.take_take, List.length_take]
      congr 1
      omega
    · cases hs

/-- r is held at p just if p lies inside a section of r. -/
theorem held_inside {S : Sy} {t p r : Nat} {h : List Int} (hp : progB (S.K t) (S.N t) (S.L t) = true) (hl : p ≤ S.L t) (hh : stTo (S.K t) (S.N t) p = some h) : ((r : Int) ∈ h ↔ Inside S t p r) := by
  have hi := prog_inv _ _ p h hh
  constructor
  · intro hm
    obtain ⟨k, h1, h2, h3, _, h5, _⟩ := hi.held _ hm
    obtain ⟨e, hc⟩ := lock_closed hp (by omega) h2
    rw [h3] at hc
    refine ⟨k, e, hc, h1, ?_⟩
    rcases Nat.lt_or_ge e p with g | g
    · exact absurd ⟨hc.2.2.2.2.1, hc.2.2.2.2.2.1⟩ (h5 e hc.1 g)
    · exact g
  · rintro ⟨k, e, hc, hk, he⟩
    rcases hi.locks (r : Int) k hk hc.2.2.1 hc.2.2.2.1 with ⟨e', hc', _⟩ | ⟨hm, _⟩
    · exfalso
      have h1 := hc'.2.1
      exact hc.2.2.2.2.2.2 e' hc'.1 (by omega) ⟨hc'.2.2.2.2.1, hc'.2.2.2.2.2.1⟩
    · exact hm

end Go.Proofs.Ytdabcflpcklfiaa.Cad
