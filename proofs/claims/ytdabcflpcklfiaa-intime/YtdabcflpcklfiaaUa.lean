import Derived.Test.YtdabcflpcklfiaaRc
import Derived.Test.YtdabcflpcklfiaaSc
import Derived.Test.YtdabcflpcklfiaaSd
/- What was reckoned ahead holds: the jobs that are done were in time. -/
namespace Go.Proofs.Ytdabcflpcklfiaa.Cad

/-- The jobs that are done, and told, were in time. -/
def KeptIn (S : Sy) (R : Nat → Int) (m : Mc) : Prop := ∀ r ∈ m.kept, 0 ≤ r.task ∧ r.task < (S.n : Int) ∧ 0 ≤ r.arr ∧ r.arr ≤ m.now ∧ 0 ≤ r.done ∧ r.done ≤ r.arr + R r.task.toNat

theorem keptIn_start (S : Sy) (R : Nat → Int) : KeptIn S R start := fun r hr => by cases hr

theorem keptIn_arrive {S : Sy} {R : Nat → Int} {m : Mc} (h : KeptIn S R m) (t jit : Int) (D : Nat → Int) (d : Nat) : KeptIn S R (arrive S m t jit D d).1 := by
  unfold arrive
  split
  · exact h
  · split
    · exact h
    · exact h

theorem keep_mem {l : List Rc} {r x : Rc} (h : x ∈ keep l r) : x ∈ l ∨ x = r := by
  unfold keep at h
  rcases List.mem_append.1 h with g | g
  · left
    split at g
    · exact List.mem_of_mem_tail g
    · exact g
  · right; simpa using g

theorem keptIn_tick {S : Sy} {W B R : Nat → Int} {m : Mc} (ho : Ok S m) (ht : TInv S W B m) (hR : ∀ t, t < S.n → R t = W t + S.J t) (h : KeptIn S R m) : KeptIn S R (tick S m).1 := by
  rcases tick_cases S m with ⟨_, e⟩ | ⟨t, j, l, htn, hq, hr, hc, e⟩
  · rw [e]
    intro r hr
    obtain ⟨a, b, c, d, e, f⟩ := h r hr
    exact ⟨a, b, c, by show r.arr ≤ m.now + 1; omega, e, f⟩
  · rw [e]
    have hy := ht.young htn (x := j) (by rw [hq]; simp)
    have hj := ho.job t htn j (by rw [hq]; simp)
    have hRt := hR t htn
    unfold tickAt
    simp only []
    split
    · intro r hr
      obtain ⟨a, b, c, d, e, f⟩ := h r hr
      exact ⟨a, b, c, by show r.arr ≤ m.now + 1; omega, e, f⟩
    · intro r hr
      have hr' : r ∈ keep m.kept ⟨t, j.arr, j.rel, m.now + 1, (runJ S t m.hold j).2.left, j.ord⟩ := hr
      rcases keep_mem hr' with g | g
      · obtain ⟨a, b, c, d, e, f⟩ := h r g
        exact ⟨a, b, c, by show r.arr ≤ m.now + 1; omega, e, f⟩
      · subst g
        have h0 := ho.now0
        refine ⟨by show (0 : Int) ≤ (t : Int); omega, by show (t : Int) < _; omega, hj.2.1, by show j.arr ≤ m.now + 1; have := hj.2.2.1; omega, by show 0 ≤ m.now + 1; omega, ?_⟩
        show m.now + 1 ≤ j.arr + R (t : Int).toNat
        rw [Int.toNat_natCast, hRt]
        omega

/-- What is told, in time. -/
structure RecIn (n : Nat) (now : Int) (R : Nat → Int) (r : Rc) (a : Nat) : Prop where
  lt : a < n
  task : r.task = (a : Int)
  arr0 : 0 ≤ r.arr
  arr1 : r.arr ≤ now
  inT : (0 ≤ r.done ∧ r.done ≤ r.arr + R a) ∨ (r.done = -1 ∧ now < r.arr + R a)

theorem recIn_all {S : Sy} {W B R : Nat → Int} {m : Mc} (ho : Ok S m) (ht : TInv S W B m) (hR : ∀ t, t < S.n → R t = W t + S.J t) (h : KeptIn S R m) {l : List Rc} (hp : l.Perm (allRecs S m)) : ∀ r ∈ l, ∃ a, RecIn S.n m.now R r a := by
  intro r hr
  have hm := hp.mem_iff.1 hr
  unfold allRecs at hm
  rcases List.mem_append.1 hm with g | g
  · obtain ⟨a, b, c, d, e, f⟩ := h r g
    exact ⟨r.task.toNat, by omega, by omega, c, d, .inl ⟨e, f⟩⟩
  · simp only [List.mem_flatMap, List.mem_map, List.mem_range] at g
    obtain ⟨t, htn, j, hj, rfl⟩ := g
    have hy := ht.young htn hj
    have hjo := ho.job t htn j hj
    have hRt := hR t htn
    exact ⟨t, htn, rfl, hjo.2.1, hjo.2.2.1, .inr ⟨rfl, by show m.now < j.arr + R t; omega⟩⟩

end Go.Proofs.Ytdabcflpcklfiaa.Cad

/- The law InTime. -/
namespace Go.Proofs.Ytdabcflpcklfiaa
open Go.RowKit Cad

/-- The kernel beside the bounds, in time. -/
structure IT (B g n kb : Nat) (R W Bk : Nat → Int) (S : Sy) (m : Mc) (wr : World) : Prop where
  k : KSt (fun q => q < B ∨ q = g) wr kb S m
  rg : wr.rowIs g 3 n (fun q => .int .i64 (R q))
  hg : B ≤ g
  hB : B ≤ wr.heap.size
  t : TInv S W Bk m
  kept : KeptIn S R m

theorem IT.own {B g n kb : Nat} {R W Bk : Nat → Int} {S : Sy} {m : Mc} {wr : World} (h : IT B g n kb R W Bk S m wr) : ∀ q, (q < B ∨ q = g) → q < wr.heap.size := by
  rintro q (h1 | h1)
  · have := h.hB; omega
  · rw [h1]; exact h.rg.lt

theorem IT.fr {B g n kb : Nat} {R W Bk : Nat → Int} {S : Sy} {m m' : Mc} {wr w' : World} (h : IT B g n kb R W Bk S m wr) (hk : KSt (fun q => q < B ∨ q = g) w' kb S m') (hf : Fr (fun q => ¬ (q < B ∨ q = g)) wr w') (ht : TInv S W Bk m') (hkp : KeptIn S R m') : IT B g n kb R W Bk S m' w' ∧ Below B wr w' :=
  ⟨⟨hk, hf.row h.rg (fun e => e (.inr rfl)), h.hg, by have := hf.size; have := h.hB; omega, ht, hkp⟩, hf.below h.hB (fun i hi => by
    rcases Nat.lt_or_ge i B with g | g
    · exact absurd (.inl g) hi
    · exact g)⟩

theorem IT.below {B g n kb : Nat} {R W Bk : Nat → Int} {S : Sy} {m : Mc} {wr w' : World} (h : IT B g n kb R W Bk S m wr) (hb : Below wr.heap.size wr w') : IT B g n kb R W Bk S m w' :=
  ⟨h.k.below hb, h.rg.of_block (hb.block _ h.rg.lt), h.hg, by have := hb.size; have := h.hB; omega, h.t, h.kept⟩

theorem it_tick {B g n kb : Nat} {R W Bk : Nat → Int} {S : Sy} {m : Mc} {wr : World} (hs : SyOk S) (hb : Bd S W Bk) (hR : ∀ t, t < S.n → R t = W t + S.J t) (h : IT B g n kb R W Bk S m wr) (hnow : m.now < 1000000000000000000) :
    Calls Try.prog 25 #[.pointer (some ⟨kb, 0, none⟩)] wr fun e w' => (∃ v, e = .returned v) ∧ IT B g n kb R W Bk S (tick S m).1 w' ∧ Below B wr w' :=
  (kst_tick h.own h.k hnow).mono (fun _ _ hh => ⟨⟨_, hh.1⟩, h.fr hh.2.1 hh.2.2 (t_tick hs hb h.k.ok hnow h.t) (keptIn_tick h.k.ok h.t hR h.kept)⟩)

theorem now_tick (S : Sy) (m : Mc) : (tick S m).1.now = m.now + 1 ∧ (tick S m).1.arrd = m.arrd := by
  rcases tick_cases S m with ⟨_, e⟩ | ⟨t, j, l, _, _, _, _, e⟩
  · rw [e]; exact ⟨rfl, rfl⟩
  · rw [e]
    unfold tickAt
    simp only []
    split <;> exact ⟨rfl, rfl⟩

theorem now_arrive (S : Sy) (m : Mc) (t jit : Int) (D : Nat → Int) (d : Nat) : (arrive S m t jit D d).1.now = m.now ∧ (arrive S m t jit D d).1.arrd ≤ m.arrd + 1 := by
  unfold arrive
  split
  · exact ⟨rfl, by show m.arrd ≤ _; omega⟩
  · split
    · exact ⟨rfl, by show m.arrd ≤ _; omega⟩
    · exact ⟨rfl, by show m.arrd + 1 ≤ _; omega⟩

theorem ScriptAt.below {w w' : World} {b off n : Nat} {X : SD} (h : ScriptAt w b off n X) (hb : b < w.heap.size) (hbel : Below w.heap.size w w') : ScriptAt w' b off n X := fun i hi => by
  obtain ⟨h0, h1, h2, h3, h4, h5, h6, h7⟩ := h i hi
  have c := fun q => hbel.cell (p := ⟨b, q, none⟩) hb
  exact ⟨(c _).trans h0, (c _).trans h1, (c _).trans h2, (c _).trans h3, h4, h5, h6, h7.below hbel⟩

end Go.Proofs.Ytdabcflpcklfiaa
