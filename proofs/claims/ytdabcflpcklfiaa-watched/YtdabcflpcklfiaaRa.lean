import Derived.Test.YtdabcflpcklfiaaSd
import Derived.Laws.IdiomCopy
import Derived.Laws.Append
import Derived.Test.YtdabcflpcklfiaaK02
/- Lists of the law's own, that are cut and appended to. -/
namespace Go.Proofs.Ytdabcflpcklfiaa
open Go.RowKit Cad

/-- A slice of one-cell elements of type e, in a block of the law's own. -/
def SL (e : Nat) (w : World) (B : Nat) (v : Value) (l : List Value) : Prop :=
  (v = .slice none 0 0 ∧ l = []) ∨ ∃ g off cap sz f, v = .slice (some ⟨g, off, none⟩) l.length cap ∧ B ≤ g ∧ w.rowIs g e sz f ∧ off + cap ≤ sz ∧ l.length ≤ cap ∧ ∀ (i : Nat) (x : Value), l[i]? = some x → f (off + i) = x

theorem SL.of_block {e : Nat} {w w' : World} {B : Nat} {v : Value} {l : List Value} (h : SL e w B v l) (hb : ∀ b, v.ownBlock = some b → w'.heap[b]? = w.heap[b]?) : SL e w' B v l := by
  rcases h with h | ⟨g, off, cap, sz, f, rfl, h1, h2, h3⟩
  · exact .inl h
  · exact .inr ⟨g, off, cap, sz, f, rfl, h1, h2.of_block (hb g rfl), h3⟩

theorem SL.lt {e : Nat} {w : World} {B : Nat} {v : Value} {l : List Value} (h : SL e w B v l) : ∀ b, v.ownBlock = some b → B ≤ b ∧ b < w.heap.size := by
  rcases h with ⟨rfl, _⟩ | ⟨g, off, cap, sz, f, rfl, h1, h2, _⟩
  · intro b hb; cases hb
  · intro b hb; cases hb; exact ⟨h1, h2.lt⟩

theorem SL.shape {e : Nat} {w : World} {B : Nat} {v : Value} {l : List Value} (h : SL e w B v l) : ∃ ao cap, v = .slice ao l.length cap := by
  rcases h with ⟨rfl, rfl⟩ | ⟨g, off, cap, sz, f, rfl, _⟩
  · exact ⟨_, _, rfl⟩
  · exact ⟨_, _, rfl⟩

/-- Another kind of block is none of its. -/
theorem SL.ne {e t : Nat} {w : World} {B b n : Nat} {v : Value} {l : List Value} {f : Nat → Value} (h : SL e w B v l) (hr : w.rowIs b t n f) (hne : t ≠ e) : v.ownBlock ≠ some b := by
  rcases h with ⟨rfl, _⟩ | ⟨g, off, cap, sz, f', rfl, h1, h2, _⟩
  · exact nofun
  · intro hb
    cases hb
    exact row_ne hr h2 hne rfl

/-- What lies in it. -/
theorem SL.cell {e : Nat} {w : World} {B ao_b off cap n : Nat} {l : List Value} (h : SL e w B (.slice (some ⟨ao_b, off, none⟩) n cap) l) {i : Nat} {x : Value} (hi : l[i]? = some x) : w.cell? ⟨ao_b, off + i, none⟩ = some x ∧ w.frozen? ⟨ao_b, off + i, none⟩ = false := by
  rcases h with ⟨h, _⟩ | ⟨g, off', cap', sz, f, h, h1, h2, h3, h4, h5⟩
  · cases h
  · cases h
    have hl := (List.getElem?_eq_some_iff.1 hi).1
    exact ⟨by rw [h2.cell (by omega), h5 i x hi], h2.frozen _⟩

theorem SL.isSl {e : Nat} {w : World} {B : Nat} {v : Value} {a : Value} {l : List Value} (h : SL e w B v (a :: l)) : ∃ g off cap, v = .slice (some ⟨g, off, none⟩) (l.length + 1) cap ∧ B ≤ g ∧ l.length + 1 ≤ cap := by
  rcases h with ⟨_, h⟩ | ⟨g, off, cap, sz, f, rfl, h1, h2, h3, h4, h5⟩
  · cases h
  · exact ⟨g, off, cap, rfl, h1, by simpa using h4⟩

/-- Cut from the front. -/
theorem SL.tail {e : Nat} {w : World} {B g off cap : Nat} {a : Value} {l : List Value} (h : SL e w B (.slice (some ⟨g, off, none⟩) (l.length + 1) cap) (a :: l)) : SL e w B (.slice (some ⟨g, if cap = 1 then off else off + 1, none⟩) l.length (cap - 1)) l := by
  rcases h with ⟨h, _⟩ | ⟨g', off', cap', sz, f, h, h1, h2, h3, h4, h5⟩
  · cases h
  · cases h
    simp only [List.length_cons] at h4
    refine .inr ⟨g, _, _, sz, f, rfl, h1, h2, ?_, by omega, fun i x hx => ?_⟩
    · split <;> omega
    · have hl := (List.getElem?_eq_some_iff.1 hx).1
      rw [if_neg (by omega), Nat.add_assoc, Nat.add_comm 1 i]
      exact h5 (i + 1) x (by simpa using hx)

/-- Cut from the end. -/
theorem SL.init {e : Nat} {w : World} {B g off cap n : Nat} {l : List Value} (h : SL e w B (.slice (some ⟨g, off, none⟩) n cap) l) (k : Nat) : SL e w B (.slice (some ⟨g, off, none⟩) (l.take k).length cap) (l.take k) := by
  rcases h with ⟨h, _⟩ | ⟨g', off', cap', sz, f, h, h1, h2, h3, h4, h5⟩
  · cases h
  · cases h
    refine .inr ⟨g, off, cap, sz, f, rfl, h1, h2, h3, by rw [List.length_take]; omega, fun i x hx => h5 i x ?_⟩
    rw [List.getElem?_take] at hx
    split at hx
    · exact hx
    · cases hx

/-- One of its elements is written. -/
theorem SL.set {e : Nat} {w : World} {B g off cap n : Nat} {l : List Value} (h : SL e w B (.slice (some ⟨g, off, none⟩) n cap) l) (i : Nat) (x : Value) : SL e (w.setCell ⟨g, off + i, none⟩ x) B (.slice (some ⟨g, off, none⟩) n cap) (l.set i x) := by
  rcases h with ⟨h, _⟩ | ⟨g', off', cap', sz, f, h, h1, h2, h3, h4, h5⟩
  · cases h
  · cases h
    refine .inr ⟨g, off, cap, sz, _, by rw [List.length_set], h1, h2.set (off + i) x, h3, by rw [List.length_set]; exact h4, fun k y hy => ?_⟩
    rw [List.getElem?_set] at hy
    by_cases e : i = k
    · subst e
      rw [if_pos rfl] at hy
      split at hy
      · cases hy; simp
      · cases hy
    · rw [if_neg e] at hy
      show (if off + k = off + i then x else f (off + k)) = y
      rw [if_neg (by omega)]
      exact h5 k y hy

theorem row_new {w : World} {e n : Nat} {cur : Array Value} (hs : cur.size = n) : ((w.drew).alloc (.cells cur e)).rowIs w.heap.size e n (fun q => cur.toList.getD q (.int .i64 0)) := by
  have := World.rowIs_alloc w.drew cur e (fun q => cur.toList.getD q (.int .i64 0)) (fun i hi => by simp [List.getD, hi])
  rw [hs] at this
  exact this

/-- append, of one element. -/
theorem run_append_sl {e t ty : Nat} {i : TypeInfo} {z : Value} (ht : Try.prog.underlying t = some (.slice e)) (hi : Try.prog.info? e = some i) (hz : i.zero = some z) (hs : i.size = 1) (hb8 : i.bytes = 8) (hzc : z.cells.size = 1) {w : World} {B : Nat} {v : Value} {l : List Value} (h : SL e w B v l) (hl : l.length ≤ 1000) (hB : B ≤ w.heap.size) {ad : Addr} {c : Nat} {p : Value} (hp : w.cell? ad = some p) (h1 : p.oneCell' = true) :
    ∃ v' w', (Builtin.append_ #[t, t] ty #[v, .slice (some ad) 1 c]).run Try.prog w = .ok v' w' ∧ SL e w' B v' (l ++ [p]) ∧ Fr (fun q => v.ownBlock = some q) w w' ∧ (∀ b, v'.ownBlock = some b → v.ownBlock = some b ∨ w.heap.size ≤ b) := by
  have hnews : ∀ j u, ([p] : List Value)[j]? = some u → w.cell? (ad.add j) = some u := fun j u hu => by
    cases j with
    | zero => simp at hu; subst hu; exact hp
    | succ j => simp at hu
  rcases h with ⟨rfl, rfl⟩ | ⟨g, off, cap, sz, f, rfl, hg, hr, hsz, hlc, hf⟩
  · have hrun := run_append_nil (P := Try.prog) w t ty e i z ht hi hz ad 1 c [p] (by rw [hs]; rfl) hnews (by omega) (by omega) (by rw [hb8]; omega)
    have hge := grownCap_ge w 1 0 e
    refine ⟨_, _, hrun, .inr ⟨w.heap.size, 0, grownCap w 1 0 e, grownCap w 1 0 e, _, rfl, hB, row_new (by simp [size_zeroCells, hzc]; omega), by omega, by simpa using hge, fun k x hx => ?_⟩, (Fr.refl _ w).drew.alloc _, fun b hb => ?_⟩
    · cases k with
      | zero => simp at hx; subst hx; simp
      | succ k => simp at hx
    · cases hb; exact .inr (Nat.le_refl _)
  · by_cases hroom : l.length + 1 ≤ cap
    · have hst : (w.cell? ⟨g, off + l.length, none⟩) = some (f (off + l.length)) := hr.cell (by omega)
      have hfz := hr.frozen (off + l.length)
      have hfirst := run_firstCells_some (P := Try.prog) w 1 1 ad 1 c [p] rfl hnews
      have hstore := run_storeCells_cells (P := Try.prog) g (off + l.length) [p] 0 w (fun j hj => by have : j = 0 := (by simpa using hj); subst this; simp [hst]) (fun j hj => by have : j = 0 := (by simpa using hj); subst this; simpa using hfz) (fun u hu => by simp at hu; subst hu; exact h1)
      refine ⟨.slice (some ⟨g, off, none⟩) (l ++ [p]).length cap, w.setCell ⟨g, off + l.length, none⟩ p, ?_, ?_, (Fr.refl (fun q => (Value.slice (some ⟨g, off, none⟩) l.length cap).ownBlock = some q) w).setCell (a := ⟨g, off + l.length, none⟩) (.inl rfl) _, fun b hb => .inl hb⟩
      · simp only [Nat.add_zero] at hstore
        simp [Builtin.append_, run_underlying ht, sizeOf, typeInfo, hi, hs, Builtin.lenOf, hroom, hfirst, Addr.add_lit, hstore, World.setCells]
      · refine .inr ⟨g, off, cap, sz, _, rfl, hg, hr.set (off + l.length) p, hsz, by simpa using hroom, fun k x hx => ?_⟩
        by_cases hk : k < l.length
        · rw [List.getElem?_append_left hk] at hx
          show (if off + k = off + l.length then p else f (off + k)) = x
          rw [if_neg (by omega)]
          exact hf k x hx
        · rw [List.getElem?_append_right (by omega)] at hx
          cases hd : k - l.length with
          | zero =>
            rw [hd] at hx
            simp at hx
            subst hx
            have : k = l.length := by omega
            subst this
            simp
          | succ q => rw [hd] at hx; simp at hx
    · have hcap : cap = l.length := by omega
      have hold : ∀ j v, l[j]? = some v → w.cell? ((⟨g, off, none⟩ : Addr).add j) = some v := fun j v hv => by
        have hj := (List.getElem?_eq_some_iff.1 hv).1
        rw [Addr.add_lit, hr.cell (by omega), hf j v hv]
      have hrun := run_append_grow (P := Try.prog) w t ty e i z ht hi hz ⟨g, off, none⟩ l.length cap l (by rw [hs, Nat.mul_one]) hold ad 1 c [p] (by rw [hs]; rfl) hnews (by omega) (by omega) (growslice_fits (by omega) (by rw [hb8]; omega))
      have hge := grownCap_ge w (l.length + 1) cap e
      refine ⟨_, _, hrun, .inr ⟨w.heap.size, 0, grownCap w (l.length + 1) cap e, grownCap w (l.length + 1) cap e, _, by simp, hB, row_new (by simp [size_zeroCells, hzc]; omega), by omega, by simpa using hge, fun k x hx => ?_⟩, (Fr.refl _ w).drew.alloc _, fun b hb => ?_⟩
      · have hk := (List.getElem?_eq_some_iff.1 hx).1
        simp only [List.append_toArray, Nat.zero_add] 
        simp only [List.getD_eq_getElem?_getD]
        have : ((l ++ [p]).toArray ++ Builtin.zeroCells z.cells (grownCap w (l.length + 1) cap e - (l.length + 1))).toList[k]? = some x := by
          simp only [Array.toList_append]
          rw [List.getElem?_append_left (by simpa using hk)]
          simpa using hx
        rw [this]; rfl
      · cases hb; exact .inr (Nat.le_refl _)

end Go.Proofs.Ytdabcflpcklfiaa

/- Raw numbers: which of n things they speak of. -/
namespace Go.Proofs.Ytdabcflpcklfiaa
open Go.RowKit Cad

def I64 (x : Int) : Prop := -9223372036854775808 ≤ x ∧ x ≤ 9223372036854775807

def pickI (c n : Int) : Int := (if c < 0 then -(c + 1) else c) % n

theorem pickI_range {c n : Int} (hn : 1 ≤ n) : 0 ≤ pickI c n ∧ pickI c n < n := by
  unfold pickI
  exact ⟨Int.emod_nonneg _ (by omega), Int.emod_lt_of_pos _ (by omega)⟩

set_option maxHeartbeats 400000 in
theorem pick_any (c n : Int) (w : World) (hc : I64 c) (hn : 1 ≤ n) (hn2 : n ≤ 1000000000) :
    Calls Try.prog 21 #[.int .i64 c, .int .i64 n] w fun e w' => e = .returned (.int .i64 (pickI c n)) ∧ w' = w := by
  obtain ⟨h1, h2⟩ := hc
  by_cases h : c < 0
  · have hd : decide (c < 0) = true := by simpa using h
    have HE : Hid (pickI c n = (-(c + 1)) % n) := by unfold Hid pickI; rw [if_pos h]
    have hp := pickI_range (c := c) hn
    go_enter Try.func21, Try.ntmps21
    go_wp2
    go_ret
    refine ⟨?_, rfl⟩
    rw [HE.out, ← Int.tmod_eq_emod_of_nonneg (by omega), Int.neg_tmod]
    rfl
  · have hd : decide (c < 0) = false := by simpa using h
    have HE : Hid (pickI c n = c % n) := by unfold Hid pickI; rw [if_neg h]
    have hp := pickI_range (c := c) hn
    go_enter Try.func21, Try.ntmps21
    go_wp2
    go_ret
    refine ⟨?_, rfl⟩
    rw [HE.out]
    rfl

end Go.Proofs.Ytdabcflpcklfiaa
