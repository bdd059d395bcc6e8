import Derived.Test.YtdabcflpcklfiaaVf
import Derived.Test.YtdabcflpcklfiaaVn
/- What was asked for is what was given and what is left. -/
namespace Go.Proofs.Ytdabcflpcklfiaa.Cad

def leftQ : List Jb → Int
  | [] => 0
  | j :: l => j.left + leftQ l

def leftTo (m : Mc) : Nat → Int
  | 0 => 0
  | k + 1 => leftTo m k + leftQ (m.q k)

/-- The law's numbers beside the kernel's jobs. -/
structure CN (S : Sy) (m : Mc) (u : Wt) : Prop where
  given : u.given = u.now - u.idle
  asked : u.asked = u.given + leftTo m S.n

theorem leftTo_congr {m m' : Mc} : ∀ k, (∀ a, a < k → m'.q a = m.q a) → leftTo m' k = leftTo m k
  | 0, _ => rfl
  | k + 1, h => by
    show leftTo m' k + leftQ (m'.q k) = leftTo m k + leftQ (m.q k)
    rw [leftTo_congr k (fun a ha => h a (by omega)), h k (by omega)]

theorem leftTo_upd {m m' : Mc} {t : Nat} {c : Int} (ho : ∀ a, a ≠ t → m'.q a = m.q a) (ht : leftQ (m'.q t) = leftQ (m.q t) + c) : ∀ k, leftTo m' k = leftTo m k + if t < k then c else 0
  | 0 => by simp [leftTo]
  | k + 1 => by
    show leftTo m' k + leftQ (m'.q k) = leftTo m k + leftQ (m.q k) + _
    rw [leftTo_upd ho ht k]
    by_cases e : k = t
    · subst e
      rw [ht, if_neg (by omega), if_pos (by omega)]
      omega
    · rw [ho k e]
      by_cases g : t < k
      · rw [if_pos g, if_pos (by omega)]
        omega
      · rw [if_neg g, if_neg (by omega)]
        omega

theorem runJ_left (S : Sy) (t : Nat) (h : Nat → Int) (j : Jb) : (runJ S t h j).2.left = j.left - 1 := by
  unfold runJ runK
  simp only []
  split <;> rfl

theorem left_tick {S : Sy} {m : Mc} (ho : Ok S m) {t : Nat} {j : Jb} {r : List Jb} (ht : t < S.n) (hq : m.q t = j :: r) : leftTo (tickAt S m t j r).1 S.n = leftTo m S.n - 1 := by
  have hl := runJ_left S t m.hold j
  have hk := runK_ok (t := t) (h := m.hold) (ho.job t ht j (by rw [hq]; simp)).1
  have key : ∀ m' : Mc, (∀ a, a ≠ t → m'.q a = m.q a) → leftQ (m'.q t) = leftQ (m.q t) + -1 → leftTo m' S.n = leftTo m S.n - 1 := by
    intro m' h1 h2
    rw [leftTo_upd h1 h2 S.n, if_pos ht]
    omega
  have e0 : leftQ (m.q t) = j.left + leftQ r := by rw [hq]; rfl
  unfold tickAt
  simp only []
  split
  · refine key _ (fun a ha => upd_other _ _ ha) ?_
    show leftQ (upd m.q t ((runJ S t m.hold j).2 :: r) t) = _
    rw [upd_same, e0]
    show (runJ S t m.hold j).2.left + leftQ r = _
    rw [hl]
    omega
  · rename_i hp
    refine key _ (fun a ha => upd_other _ _ ha) ?_
    show leftQ (upd m.q t r t) = _
    rw [upd_same, e0]
    have h1 : (runK (S.K t) (S.L t) t m.hold j).2.p ≤ S.L t := hk.1
    have h2 : ¬ (runK (S.K t) (S.L t) t m.hold j).2.p < S.L t := hp
    have h3 : (runK (S.K t) (S.L t) t m.hold j).2.left = 0 := hk.2.2.1 (by omega)
    have h4 : (runK (S.K t) (S.L t) t m.hold j).2.left = j.left - 1 := hl
    omega

/-- A tick that nobody has. -/
theorem cn_idle {S : Sy} {m : Mc} {u u' : Wt} (h : CN S m u) (h1 : u'.now = u.now + 1) (h2 : u'.idle = u.idle + 1) (h3 : u'.given = u.given) (h4 : u'.asked = u.asked) : CN S { m with now := m.now + 1, idle := m.idle + 1 } u' where
  given := by have := h.given; omega
  asked := by
    have := h.asked
    rw [leftTo_congr (m := m) (m' := { m with now := m.now + 1, idle := m.idle + 1 }) S.n (fun _ _ => rfl)]
    omega

/-- A tick that a job has. -/
theorem cn_tick {S : Sy} {m : Mc} {u u' : Wt} (ho : Ok S m) (h : CN S m u) {t : Nat} {j : Jb} {r : List Jb} (ht : t < S.n) (hq : m.q t = j :: r) (h1 : u'.now = u.now + 1) (h2 : u'.idle = u.idle) (h3 : u'.given = u.given + 1) (h4 : u'.asked = u.asked) : CN S (tickAt S m t j r).1 u' where
  given := by have := h.given; omega
  asked := by
    have := h.asked
    rw [left_tick ho ht hq]
    omega

theorem left_start : ∀ k, leftTo start k = 0
  | 0 => rfl
  | k + 1 => by
    show leftTo start k + 0 = 0
    rw [left_start k]; rfl

theorem cn_start (S : Sy) : CN S start wstart where
  given := rfl
  asked := by rw [left_start]; rfl

theorem leftQ_snoc (l : List Jb) (j : Jb) : leftQ (l ++ [j]) = leftQ l + j.left := by
  induction l with
  | nil => show j.left + 0 = 0 + j.left; omega
  | cons a r ih =>
    show a.left + leftQ (r ++ [j]) = a.left + leftQ r + j.left
    rw [ih]; omega

/-- A job more. -/
theorem cn_added {S : Sy} {m : Mc} {u u' : Wt} (h : CN S m u) {t : Nat} (ht : t < S.n) {jit : Int} {D : Nat → Int} (h1 : u'.now = u.now) (h2 : u'.idle = u.idle) (h3 : u'.given = u.given) (h4 : u'.asked = u.asked + (jobOf S m t jit D).left) : CN S (added S m t jit D) u' where
  given := by have := h.given; omega
  asked := by
    have := h.asked
    rw [leftTo_upd (m := m) (m' := added S m t jit D) (t := t) (c := (jobOf S m t jit D).left) (fun a ha => upd_other _ _ ha) (by
      show leftQ (upd m.q t (m.q t ++ [jobOf S m t jit D]) t) = _
      rw [upd_same, leftQ_snoc]) S.n, if_pos ht]
    omega

theorem leftQ_range {S : Sy} {m : Mc} (ho : Ok S m) {t : Nat} (ht : t < S.n) : ∀ (l : List Jb), (∀ j ∈ l, j ∈ m.q t) → 0 ≤ leftQ l ∧ leftQ l ≤ 1600 * (l.length : Int)
  | [], _ => ⟨Int.le_refl _, Int.le_refl _⟩
  | j :: l, h => by
    have ih := leftQ_range ho ht l (fun x hx => h x (List.mem_cons_of_mem _ hx))
    have hj := (ho.job t ht j (h j (by simp))).1.left_range (ho.len t ht).2
    show 0 ≤ j.left + leftQ l ∧ j.left + leftQ l ≤ 1600 * (((l.length + 1 : Nat)) : Int)
    omega

theorem leftTo_range {S : Sy} {m : Mc} (ho : Ok S m) : ∀ k, k ≤ S.n → 0 ≤ leftTo m k ∧ leftTo m k ≤ 12800 * (k : Int)
  | 0, _ => ⟨Int.le_refl _, Int.le_refl _⟩
  | k + 1, hk => by
    have ih := leftTo_range ho k (by omega)
    have h1 := leftQ_range ho (t := k) (by omega) (m.q k) (fun _ h => h)
    have h2 := ho.few k (by omega)
    show 0 ≤ leftTo m k + leftQ (m.q k) ∧ leftTo m k + leftQ (m.q k) ≤ 12800 * ((k + 1 : Nat) : Int)
    omega

theorem sumL_snoc (a : List Int) (i : Nat) (hi : i < a.length) : sumL (a.take (i + 1)) = sumL (a.take i) + a.getD i 0 := by
  induction a generalizing i with
  | nil => cases hi
  | cons b r ih =>
    cases i with
    | zero => show b + 0 = 0 + b; omega
    | succ i =>
      have := ih i (by simpa using hi)
      show b + sumL (r.take (i + 1)) = b + sumL (r.take i) + r.getD i 0
      omega

/-- A new job's demand is what its list has. -/
theorem dem_new {K N : Nat → Int} {l : List Int} : ∀ L, cmpTo K L ≤ l.length → demTo K (numOf K N (fun q => l.getD q 0)) L = sumL (l.take (cmpTo K L))
  | 0, _ => rfl
  | L + 1, h => by
    by_cases e : K L = 1
    · have hc : cmpTo K (L + 1) = cmpTo K L + 1 := if_pos e
      rw [hc] at h ⊢
      have ih := dem_new (K := K) (N := N) (l := l) L (by omega)
      have hd : demTo K (numOf K N (fun q => l.getD q 0)) (L + 1) = demTo K (numOf K N (fun q => l.getD q 0)) L + numOf K N (fun q => l.getD q 0) L := by
        show _ + (if K L = 1 then _ else 0) = _
        rw [if_pos e]
      have hn : numOf K N (fun q => l.getD q 0) L = l.getD (cmpTo K L) 0 := if_pos e
      rw [hd, ih, hn]
      exact (sumL_snoc l _ (by omega)).symm
    · have hc : cmpTo K (L + 1) = cmpTo K L := if_neg e
      rw [hc] at h ⊢
      have hd : demTo K (numOf K N (fun q => l.getD q 0)) (L + 1) = demTo K (numOf K N (fun q => l.getD q 0)) L := by
        show _ + (if K L = 1 then _ else 0) = _
        rw [if_neg e, Int.add_zero]
      rw [hd]
      exact dem_new L h

end Go.Proofs.Ytdabcflpcklfiaa.Cad

/- The law's watch beside the kernel; what its tick needs. -/
namespace Go.Proofs.Ytdabcflpcklfiaa
open Go.RowKit Cad

/-- The law's watch and its kernel, side by side. -/
def WSt (w0 w : World) (n kb wb : Nat) (tv pv : Value) (S : Sy) (m : Mc) : Prop :=
  ∃ u dn Y, WAt w w0.heap.size n kb tv pv u dn Y ∧ WSep n u dn Y ∧ Y.wb = wb ∧ KSt (fun q => q < w0.heap.size ∨ footW n u dn Y q) w kb S m ∧ WI S m u ∧ LkInv S m ∧ Below w0.heap.size w0 w ∧ CN S m u

/-- The kernel has moved: the watch stands. -/
theorem WAt.kernel {w0 w w' : World} {n kb : Nat} {tv pv : Value} {u : Wt} {dn : Nat → Nat} {Y : WL} (h : WAt w w0.heap.size n kb tv pv u dn Y) (hb : Below w0.heap.size w0 w) (hf : Fr (fun q => ¬ (q < w0.heap.size ∨ footW n u dn Y q)) w w') : WAt w' w0.heap.size n kb tv pv u dn Y ∧ Below w0.heap.size w0 w' :=
  ⟨h.same (fun b hb => hf.block b (h.foot_lt hb).2 (fun e => e (.inr hb))), hb.trans (hf.below hb.size (fun i hi => Nat.le_of_not_lt (fun e => hi (.inl e))))⟩

theorem Cad.WI.eight {S : Sy} {m : Mc} {u : Wt} (ho : Ok S m) (h : WI S m u) : ∀ t, t < S.n → (u.runs t).length ≤ 8 := fun t ht => by rw [h.len t ht]; exact ho.few t ht

theorem st_len {K N : Nat → Int} : ∀ (p : Nat) {h : List Int}, stTo K N p = some h → h.length ≤ p
  | 0, h, e => by cases e; simp
  | p + 1, h, e => by
    have e' : (stTo K N p).bind _ = some h := e
    cases hq : stTo K N p with
    | none => rw [hq] at e'; cases e'
    | some g =>
      rw [hq] at e'
      have ih := st_len p hq
      have e2 : Cad.stepF g (prevLock K p) (K p) (N p) = some h := e'
      unfold Cad.stepF at e2
      split at e2
      · split at e2
        · cases e2; omega
        · cases e2
      · split at e2
        · split at e2
          · cases e2; rw [List.length_append]; simp; omega
          · cases e2
        · split at e2
          · split at e2
            · cases e2; rw [List.length_dropLast]; omega
            · cases e2
          · cases e2

theorem st_mem {K N : Nat → Int} {r : Int} : ∀ (p : Nat) {h : List Int}, stTo K N p = some h → r ∈ h → ∃ k, k < p ∧ K k = 2 ∧ N k = r
  | 0, h, e, hr => by cases e; simp at hr
  | p + 1, h, e, hr => by
    have e' : (stTo K N p).bind _ = some h := e
    cases hq : stTo K N p with
    | none => rw [hq] at e'; cases e'
    | some g =>
      rw [hq] at e'
      have ih := st_mem (r := r) p hq
      have old : r ∈ g → ∃ k, k < p + 1 ∧ K k = 2 ∧ N k = r := fun hm => by
        obtain ⟨k, h1, h2, h3⟩ := ih hm
        exact ⟨k, by omega, h2, h3⟩
      have e2 : Cad.stepF g (prevLock K p) (K p) (N p) = some h := e'
      unfold Cad.stepF at e2
      split at e2
      · split at e2
        · cases e2; exact old hr
        · cases e2
      · split at e2
        · rename_i hk2
          split at e2
          · cases e2
            rcases List.mem_append.1 hr with g1 | g1
            · exact old g1
            · exact ⟨p, by omega, hk2, (List.mem_singleton.1 g1).symm⟩
          · cases e2
        · split at e2
          · split at e2
            · cases e2; exact old (List.dropLast_subset _ hr)
            · cases e2
          · cases e2

/-- No run holds more than sixteen. -/
theorem Cad.WI.held16 {S : Sy} {m : Mc} {u : Wt} (ho : Ok S m) (h : WI S m u) : ∀ t, t < S.n → ∀ x ∈ u.runs t, x.held.length ≤ 16 := by
  intro t ht x hx
  obtain ⟨i, hi, e⟩ := List.getElem_of_mem hx
  have hl := h.len t ht
  obtain ⟨j, hj⟩ : ∃ j, (m.q t)[i]? = some j := ⟨_, List.getElem?_eq_getElem (by omega)⟩
  have hjw := h.jw t ht i x j (by rw [List.getElem?_eq_getElem hi, e]) hj
  have h1 := st_len _ hjw.held
  have h2 := (ho.job t ht j (List.mem_of_getElem? hj)).1.lt
  have h3 := (ho.len t ht).2
  omega

theorem Cad.WI.congr {S : Sy} {m : Mc} {u u' : Wt} (h : WI S m u) (h1 : u'.now = u.now) (h2 : u'.idle = u.idle) (hr : ∀ a, a < S.n → u'.runs a = u.runs a) : WI S m u' where
  now := h1.trans h.now
  idle := h2.trans h.idle
  len t ht := by rw [hr t ht]; exact h.len t ht
  jw t ht i x j hx hq := h.jw t ht i x j (by rw [← hr t ht]; exact hx) hq
  hd t x l j l' ht hx hq := h.hd t x l j l' ht (by rw [← hr t ht]; exact hx) hq
  tl t x l ht hx := h.tl t x l ht (by rw [← hr t ht]; exact hx)
  old t x l ht hx := h.old t x l ht (by rw [← hr t ht]; exact hx)
  byr t y l ht hx := h.byr t y l ht (by rw [← hr t ht]; exact hx)
  i1 a x l t y l' ha ht hz hx hy := h.i1 a x l t y l' ha ht hz (by rw [← hr a ha]; exact hx) (by rw [← hr t ht]; exact hy)
  i2 t y l a x l' ht ha hz hy hb hx := h.i2 t y l a x l' ht ha hz (by rw [← hr t ht]; exact hy) hb (by rw [← hr a ha]; exact hx)

theorem none_ready {S : Sy} {m : Mc} (ho : Ok S m) (hc : (chTo S m S.n).1 = -1) {a : Nat} (ha : a < S.n) : readyB m a = false := by
  cases hr : readyB m a with
  | false => rfl
  | true =>
    have h1 := chTo_max S m S.n a ha hr
    have h2 := (rank_range ho ha m.hold).1
    rcases chTo_range S m S.n with ⟨_, h3⟩ | ⟨t, _, h3, _⟩
    · omega
    · omega

theorem fst_none {S : Sy} {m : Mc} {u : Wt} {dn : Nat → Nat} {Y : WL} (h : WI S m u) {a : Nat} (ha : a < S.n) (hr : readyB m a = false) : fstP u dn Y a = none := by
  unfold fstP
  cases hq : u.runs a with
  | nil => rfl
  | cons x l =>
    by_cases g : x.ready ≤ u.now
    · have := (h.ready ha).2 ⟨x, l, hq, g⟩
      rw [hr] at this; cases this
    · exact if_neg g

theorem fst_some {u : Wt} {dn : Nat → Nat} {Y : WL} {a : Nat} {x : Wr} {l : List Wr} (hx : u.runs a = x :: l) (hr : x.ready ≤ u.now) : fstP u dn Y a = some ⟨Y.jb a (dn a), 0, none⟩ := by
  unfold fstP
  rw [hx]
  exact if_pos hr

theorem SL.capOf {e : Nat} {w : World} {B g o k cp : Nat} {l : List Value} (h : SL e w B (.slice (some ⟨g, o, none⟩) k cp) l) : l.length ≤ cp := by
  rcases h with ⟨h, _⟩ | ⟨_, _, _, _, _, h, _, _, _, h4, _⟩
  · cases h
  · cases h
    exact h4

theorem bel_drew (w : World) : Below w.heap.size w w.drew := ⟨rfl, rfl, rfl, Nat.le_refl _, fun _ _ => rfl⟩

theorem SL.take {w : World} {B g o k cp : Nat} {l : List Int} (h : SL 3 w B (.slice (some ⟨g, o, none⟩) k cp) (ints l)) {i : Nat} (hi : i ≤ l.length) : SL 3 w B (.slice (some ⟨g, o, none⟩) i cp) (ints (l.take i)) := by
  have g1 := h.init i
  rw [List.length_take, ints_len, Nat.min_eq_left hi] at g1
  have e : ints (l.take i) = (ints l).take i := by
    unfold ints
    rw [List.map_take]
  rw [e]
  exact g1

/-- One Unlock. -/
theorem WAt.cutOne {w : World} {B n kb : Nat} {tv pv : Value} {u : Wt} {dn : Nat → Nat} {Y : WL} (h : WAt w B n kb tv pv u dn Y) (hs : WSep n u dn Y) {t : Nat} {x : Wr} (ht : t < n) (hx : (u.runs t)[0]? = some x) {g1 o1 k1 c1 g2 o2 k2 c2 l1 s : Nat} (hV1 : Y.V 1 t (dn t + 0) = .slice (some ⟨g1, o1, none⟩) k1 c1) (hV2 : Y.V 2 t (dn t + 0) = .slice (some ⟨g2, o2, none⟩) k2 c2) (hl1 : l1 ≤ x.held.length) (hl2 : l1 ≤ x.since.length) :
    WMove B n kb tv pv u (setR u t 0 { x with step := s, held := x.held.take l1, since := x.since.take l1 }) dn dn Y (setY Y t (dn t + 0) (fun c => if c = 0 then Y.V 0 t (dn t + 0) else if c = 1 then .slice (some ⟨g1, o1, none⟩) l1 c1 else .slice (some ⟨g2, o2, none⟩) l1 c2)) w (((w.setCell ⟨Y.jb t (dn t + 0), 4, none⟩ (.slice (some ⟨g1, o1, none⟩) l1 c1)).setCell ⟨Y.jb t (dn t + 0), 5, none⟩ (.slice (some ⟨g2, o2, none⟩) l1 c2)).setCell ⟨Y.jb t (dn t + 0), 3, none⟩ (.int .i64 (s : Int))) := by
  have hj := h.jrow t ht 0 x hx
  have hj1 := hj.set 4 (.slice (some ⟨g1, o1, none⟩) l1 c1)
  have hj2 := hj1.set 5 (.slice (some ⟨g2, o2, none⟩) l1 c2)
  have hj3 := hj2.set 3 (.int .i64 (s : Int))
  have i0 := h.irow t ht 0 x hx 0 (by omega)
  have i1 := h.irow t ht 0 x hx 1 (by omega)
  have i2 := h.irow t ht 0 x hx 2 (by omega)
  rw [hV1] at i1
  rw [hV2] at i2
  have i1' : SL 3 w B (.slice (some ⟨g1, o1, none⟩) l1 c1) (ints (x.held.take l1)) := SL.take (l := x.held) i1 hl1
  have i2' : SL 3 w B (.slice (some ⟨g2, o2, none⟩) l1 c2) (ints (x.since.take l1)) := SL.take (l := x.since) i2 hl2
  refine h.putRun hs ht hx ((((Fr.refl _ _).setCell (.inl (.inl rfl)) _).setCell (.inl (.inl rfl)) _).setCell (.inl (.inl rfl)) _) (hj3.congr ?_) (fun c hc => ?_) (fun c hc b hb => ?_)
  · intro p hp
    match p, hp with
    | 0, _ => rfl
    | 1, _ => rfl
    | 2, _ => rfl
    | 3, _ => rfl
    | 4, _ => rfl
    | 5, _ => rfl
    | 6, _ => rfl
    | 7, _ => rfl
  · match c, hc with
    | 0, _ => exact ((i0.setJ hj).setJ hj1).setJ hj2
    | 1, _ => exact ((i1'.setJ hj).setJ hj1).setJ hj2
    | 2, _ => exact ((i2'.setJ hj).setJ hj1).setJ hj2
  · match c, hc, hb with
    | 0, _, hb => exact hb
    | 1, _, hb => rw [hV1]; exact hb
    | 2, _, hb => rw [hV2]; exact hb

/-- A run that has ended a Compute and d Unlocks behind it. -/
def cuts (xg : Wr) (r : List Int) (s d : Nat) : Wr := { xg with left := r, step := s + d, held := cutN xg.held d, since := cutN xg.since d }

theorem cuts_zero (xg : Wr) (r : List Int) (s : Nat) : cuts xg r s 0 = { xg with left := r, step := s } := by
  unfold cuts cutN
  simp

theorem cutN_succ (l : List Int) (d : Nat) : cutN l (d + 1) = (cutN l d).take ((cutN l d).length - 1) := by
  unfold cutN
  rw [List.take_take, List.length_take]
  congr 1
  omega

theorem cutN_len (l : List Int) (d : Nat) : (cutN l d).length = l.length - d := by
  unfold cutN
  rw [List.length_take]
  omega

end Go.Proofs.Ytdabcflpcklfiaa
