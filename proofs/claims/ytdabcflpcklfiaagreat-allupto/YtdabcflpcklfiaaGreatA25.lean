import Derived.Test.YtdabcflpcklfiaaGreatA24
/- A new kernel. -/
namespace Go.Proofs.YtdabcflpcklfiaaGreat
open Go.RowKit Cad

theorem ceilK_range {K N : Nat → Int} {z : Int} {c : Nat → Int} (hz : 0 ≤ z ∧ z < 8) (hc : ∀ r, 0 ≤ c r ∧ c r < 8) : ∀ k r, 0 ≤ ceilK K N z c k r ∧ ceilK K N z c k r < 8
  | 0, r => hc r
  | k + 1, r => by
    have ih := ceilK_range (K := K) (N := N) hz hc k
    unfold ceilK
    split
    · unfold upd
      split
      · have := ih (N k).toNat
        omega
      · exact ih r
    · exact ih r

theorem ceilI_range {K N : Nat → Nat → Int} {L : Nat → Nat} {Z : Nat → Int} : ∀ n, (∀ t, t < n → 0 ≤ Z t ∧ Z t < 8) → ∀ r, 0 ≤ ceilI K N L Z n r ∧ ceilI K N L Z n r < 8
  | 0, _, r => by simp [ceilI]
  | n + 1, h, r => ceilK_range (h n (by omega)) (ceilI_range n (fun t ht => h t (by omega))) _ r

theorem start_ok {T : TD} {Z : Nat → Int} {n : Nat} (hG : Good T n) (hp : PrioB Z n) : Ok (sysOf T Z n) Cad.start := by
  have h8 := hG.eight
  have hz : ∀ t, t < n → 0 ≤ Z t ∧ Z t < 8 := fun t ht => by have := hp.1 t ht; omega
  refine ⟨hG.one, hG.eight, hz, fun r _ => ceilI_range n hz r, fun t ht => ?_, by decide, by decide, by decide, by decide, fun t ht => ?_, fun t _ => by simp [Cad.start], fun t _ => by simp [Cad.start], fun t _ => by simp [Cad.start], fun t _ j hj => by simp [Cad.start] at hj, by simp [Cad.start], fun t ht => ?_⟩
  · have := progB_inv (hG.prog t ht)
    exact ⟨this.1, this.2.1⟩
  · have := hG.times t ht
    show 1 ≤ T.P t ∧ T.P t ≤ 10000 ∧ 0 ≤ T.J t ∧ T.J t ≤ 10000
    omega
  · obtain ⟨l1, l2, l3, l4⟩ := progB_inv (hG.prog t ht)
    have hs := l4.steps
    refine ⟨fun i hi => ?_, l3, fun e => ?_, fun i hi h2 e => ?_, fun i hi h1 => ?_, fun i hi h1 => ?_⟩
    · rcases hs i hi with h | h | h
      · exact .inl h.1
      · exact .inr (.inl h.1)
      · exact .inr (.inr h.1)
    · have e' : T.K t 0 = 3 := e
      rcases hs 0 (by omega) with h | h | h
      · omega
      · omega
      · omega
    · have e' : T.K t (i + 1) = 3 := e
      have h2' : T.K t i = 2 := h2
      have hi' : i + 1 < T.L t := hi
      rcases hs (i + 1) hi' with h | h | h
      · omega
      · omega
      · exact h.2.2.2.2 (by simpa using h2')
    · have h1' : T.K t i ≠ 1 := h1
      rcases hs i hi with h | h | h
      · exact absurd h.1 h1'
      · exact ⟨h.2.1, h.2.2⟩
      · exact ⟨h.2.1, h.2.2.1⟩
    · have h1' : T.K t i = 1 := h1
      rcases hs i hi with h | h | h
      · exact h.2
      · omega
      · omega

def layOf (tb jm mb : Nat) (pb pc : Nat → Nat) : Lay := { mb := mb, tb := tb, jm := jm, pb := pb, pc := pc, jb := fun _ _ => 0, rb := fun _ _ => 0, rc := fun _ _ => 0, kv := .slice none 0 0 }

theorem mat_of {w w' : World} {tb jm mb n : Nat} {T : TD} {Z : Nat → Int} {pb pc : Nat → Nat} (h : OfInv w w' tb jm mb n T Z pb pc n) : MAt w' (sysOf T Z n) Cad.start (layOf tb jm mb pb pc) := by
  refine ⟨h.mrow.congr (fun q hq => ?_), h.trow.congr (fun q hq => ?_), h.prow, ?_, fun t _ i j hj => by simp [Cad.start] at hj, ?_⟩
  · unfold fc mk0 mcell layOf sysOf Cad.start
    simp only []
    (repeat' split) <;> first | rfl | (exfalso; omega) | (subst_vars; rfl)
  · unfold tk0 tcell taskC layOf sysOf Cad.start
    have : q / 7 < n := by omega
    simp only [this, if_true]
    (repeat' split) <;> first | rfl | (simp; done) | (exfalso; omega)
  · refine h.jmap.congr (fun t i => ?_)
    unfold live
    rw [if_neg (by simp [Cad.start])]
  · exact World.ownsRow_nil _ _ _ _

theorem sep_start (S : Sy) (Y : Lay) : Sep S Cad.start Y := by
  have hno : ∀ t i, ¬ isLive S Cad.start t i := fun t i h => by
    obtain ⟨_, h1, h2⟩ := h
    simp [Cad.start] at h1 h2
  exact ⟨fun t i _ _ h => absurd h (hno t i), fun t i _ _ h => absurd h (hno t i), fun t i _ h => absurd h (hno t i)⟩

theorem foot_start {S : Sy} {tb jm mb B : Nat} {pb pc : Nat → Nat} (h1 : B ≤ tb) (h2 : B ≤ jm) (h3 : B ≤ mb) (h4 : ∀ t, t < S.n → B ≤ pb t) : ∀ b, foot S Cad.start (layOf tb jm mb pb pc) b → B ≤ b := by
  intro b hb
  rcases hb with rfl | rfl | rfl | ⟨t, ht, rfl⟩ | ⟨t, i, hl, _⟩ | hb
  · exact h3
  · exact h1
  · exact h2
  · exact h4 t ht
  · obtain ⟨_, a, c⟩ := hl
    simp [Cad.start] at a c
  · simp [layOf, Value.ownBlock] at hb

theorem kern_row (w : World) (mb : Nat) : (w.alloc (.cells #[.int .i32 0, .int .u32 0, .pointer (some ⟨mb, 0, none⟩)] 113)).rowIs w.heap.size 113 3 (kcell mb) :=
  World.rowIs_alloc w #[.int .i32 0, .int .u32 0, .pointer (some ⟨mb, 0, none⟩)] 113 _ (fun i hi => by
    have hi' : i < 3 := hi
    match i, hi' with
    | 0, _ => rfl
    | 1, _ => rfl
    | 2, _ => rfl)

set_option maxRecDepth 100000 in
set_option maxHeartbeats 1000000 in
theorem new_ok (b off n cap po pof pc : Nat) (T : TD) (Z : Nat → Int) (w : World) (hc : chkR T n = (0, 0)) (hb : b < w.heap.size) (hpo : po < w.heap.size) (hT : TasksAt w b off n T) (hZ : IntsAt w po pof n Z) (hp : PrioB Z n) :
    Calls Tryz.prog 18 #[.slice (some ⟨b, off, none⟩) n cap, .slice (some ⟨po, pof, none⟩) n pc] w fun e w' => ∃ kb Y, e = .returned (.tuple #[.pointer (some ⟨kb, 0, none⟩), .int .i64 0, .int .i64 0]) ∧ KAt w' kb (sysOf T Z n) Cad.start Y ∧ Below w.heap.size w w' ∧ ∀ q, footK kb (sysOf T Z n) Cad.start Y q → w.heap.size ≤ q := by
  have HT : Hid (TasksAt w b off n T) := hT
  have HZ : Hid (IntsAt w po pof n Z) := hZ
  have HC : Hid (chkR T n = (0, 0)) := hc
  have HP : Hid (PrioB Z n) := hp
  have HG : Hid (Good T n) := (good_of_chk hc).1
  clear hT hZ hc hp
  go_enter Tryz.func18, Tryz.ntmps18
  go_wp2_with fail
  refine (both_ok b off n cap po pof pc T Z _ HC.out hb hpo HT.out HZ.out HP.out).mono ?_
  rintro e w1 ⟨rfl, hb1⟩
  have hs1 := hb1.size
  have HB1 : Hid (Below w.heap.size w w1) := hb1
  have HMO : Hid (Calls Tryz.prog 44 #[.slice (some ⟨b, off, none⟩) n cap, .slice (some ⟨po, pof, none⟩) n pc] w1 fun e w' => ∃ tb jm mb pb pc, e = .returned (.pointer (some ⟨mb, 0, none⟩)) ∧ w1.heap.size ≤ tb ∧ w1.heap.size ≤ jm ∧ w1.heap.size ≤ mb ∧ (∀ t, t < n → w1.heap.size ≤ pb t) ∧ OfInv w1 w' tb jm mb n T Z pb pc n) :=
    mof_any b off n cap po pof pc T Z w1 HG.out (by omega) (by omega) (TasksAt.below HT.out hb HB1.out) (IntsAt.below HZ.out hpo HB1.out)
  clear hb1
  go_wp2_with fail
  refine (HMO.out).mono ?_
  rintro e w2 ⟨tb, jm, mb, pb, pcs, rfl, l1, l2, l3, l4, hof⟩
  have hb2 := hof.below
  have HK : Hid (KAt (w2.alloc (.cells #[.int .i32 0, .int .u32 0, .pointer (some ⟨mb, 0, none⟩)] 113)) w2.heap.size (sysOf T Z n) Cad.start (layOf tb jm mb pb pcs)) :=
    ⟨kern_row w2 mb, (mat_of hof).below (below_alloc1 _ _), sep_start _ _, start_ok HG.out HP.out⟩
  have HB2 : Hid (Below w.heap.size w (w2.alloc (.cells #[.int .i32 0, .int .u32 0, .pointer (some ⟨mb, 0, none⟩)] 113))) := (HB1.out.trans (hb2.mono hs1)).alloc (by have := hb2.size; omega) _
  have HFT : Hid (∀ q, footK w2.heap.size (sysOf T Z n) Cad.start (layOf tb jm mb pb pcs) q → w.heap.size ≤ q) := fun q hq => by
    rcases hq with rfl | hq
    · have := hb2.size; omega
    · exact foot_start (by omega) (by omega) (by omega) (fun t ht => by have := l4 t ht; omega) q hq
  clear hof hb2 HMO
  go_wp2
  go_ret3
  exact ⟨_, _, rfl, HK.out, HB2.out, HFT.out⟩

set_option maxRecDepth 100000 in
set_option maxHeartbeats 1000000 in
theorem new_err (b off n cap : Nat) (pv : Value) (T : TD) (x y : Int) (w : World) (hc : chkR T n = (x, y)) (hx : x ≠ 0) (hm : n ≤ 9223372036854775807) (hb : b < w.heap.size) (hT : TasksAt w b off n T) :
    Calls Tryz.prog 18 #[.slice (some ⟨b, off, none⟩) n cap, pv] w fun e w' => e = .returned (.tuple #[.pointer none, .int .i64 x, .int .i64 y]) ∧ Below w.heap.size w w' := by
  have HT : Hid (TasksAt w b off n T) := hT
  have HC : Hid (chkR T n = (x, y)) := hc
  have HX : Hid (x ≠ 0) := hx
  have hd : (x != 0) = true := by simpa using hx
  clear hT hc hx
  go_enter Tryz.func18, Tryz.ntmps18
  go_wp2_with fail
  refine (both_err b off n cap pv T x y _ HC.out HX.out hm hb HT.out).mono ?_
  rintro e w1 ⟨rfl, hb1⟩
  go_wp2
  go_ret3
  exact ⟨rfl, hb1⟩

set_option maxRecDepth 100000 in
set_option maxHeartbeats 1000000 in
theorem new_ord (b off n cap : Nat) (ao : Option Addr) (pl pc : Nat) (T : TD) (w : World) (hc : chkR T n = (0, 0)) (hb : b < w.heap.size) (hT : TasksAt w b off n T)
    (ho : pl ≠ n ∨ ∃ pb po Z, ao = some ⟨pb, po, none⟩ ∧ pl = n ∧ pb < w.heap.size ∧ IntsAt w pb po n Z ∧ ¬ Cad.PrioB Z n) :
    Calls Tryz.prog 18 #[.slice (some ⟨b, off, none⟩) n cap, .slice ao pl pc] w fun e w' => e = .returned (.tuple #[.pointer none, .int .i64 4, .int .i64 0]) ∧ Below w.heap.size w w' := by
  have HT : Hid (TasksAt w b off n T) := hT
  have HC : Hid (chkR T n = (0, 0)) := hc
  have HO : Hid (pl ≠ n ∨ ∃ pb po Z, ao = some ⟨pb, po, none⟩ ∧ pl = n ∧ pb < w.heap.size ∧ IntsAt w pb po n Z ∧ ¬ Cad.PrioB Z n) := ho
  clear hT hc ho
  go_enter Tryz.func18, Tryz.ntmps18
  go_wp2_with fail
  refine (both_ord b off n cap ao pl pc T _ HC.out hb HT.out HO.out).mono ?_
  rintro e w1 ⟨rfl, hb1⟩
  go_wp2
  go_ret3
  exact ⟨rfl, hb1⟩

end Go.Proofs.YtdabcflpcklfiaaGreat

/- A kernel beside memory that is not its own. -/
namespace Go.Proofs.YtdabcflpcklfiaaGreat
open Go.RowKit Cad

/-- A kernel that owns none of the blocks 'own'. -/
def KSt (own : Nat → Prop) (w : World) (kb : Nat) (S : Sy) (m : Mc) : Prop := ∃ Y, KAt w kb S m Y ∧ ∀ q, footK kb S m Y q → ¬ own q

theorem KSt.moved {own : Nat → Prop} {w w' : World} {kb : Nat} {S : Sy} {m m' : Mc} {Y Y' : Lay} (hown : ∀ q, own q → q < w.heap.size) (ho : ∀ q, footK kb S m Y q → ¬ own q) (h : KMoved kb S m m' Y Y' w w') : KSt own w' kb S m' ∧ Fr (fun q => ¬ own q) w w' := by
  refine ⟨⟨Y', h.kat, fun q hq hoq => ?_⟩, h.fr.mono (fun q hq => ho q hq)⟩
  rcases h.foot q hq with h1 | h1
  · exact ho q h1 hoq
  · have := hown q hoq; omega

theorem kst_tick {own : Nat → Prop} {w : World} {kb : Nat} {S : Sy} {m : Mc} (hown : ∀ q, own q → q < w.heap.size) (h : KSt own w kb S m) (hnow : m.now < 1000000000000000000) :
    Calls Tryz.prog 28 #[.pointer (some ⟨kb, 0, none⟩)] w fun e w' => e = .returned (.tuple #[.int .i64 (tick S m).2.1, .bool (tick S m).2.2]) ∧ KSt own w' kb S (tick S m).1 ∧ Fr (fun q => ¬ own q) w w' := by
  obtain ⟨Y, hk, ho⟩ := h
  refine (ktick_any kb S m Y w hk hnow).mono ?_
  rintro e w' ⟨he, Y', hm⟩
  exact ⟨he, KSt.moved hown ho hm⟩

theorem kst_arrive {own : Nat → Prop} {w : World} {kb : Nat} {S : Sy} {m : Mc} (x jit : Int) (db dof d dc : Nat) (D : Nat → Int) (ao : Option Addr) (hown : ∀ q, own q → q < w.heap.size) (h : KSt own w kb S m) (har : m.arrd < 1000000000000000000) (hd : d ≤ 9223372036854775806)
    (hD : 1 ≤ d → ao = some ⟨db, dof, none⟩ ∧ db < w.heap.size ∧ IntsIn w db dof d D) :
    Calls Tryz.prog 45 #[.pointer (some ⟨kb, 0, none⟩), .int .i64 x, .int .i64 jit, .slice ao d dc] w fun e w' => e = .returned (.int .i64 (arrive S m x jit D d).2) ∧ KSt own w' kb S (arrive S m x jit D d).1 ∧ Fr (fun q => ¬ own q) w w' := by
  obtain ⟨Y, hk, ho⟩ := h
  refine (karrive_any kb S m Y x jit db dof d dc D ao w hk har hd hD).mono ?_
  rintro e w' ⟨he, Y', hm⟩
  exact ⟨he, KSt.moved hown ho hm⟩

/-! ### the example runs -/

end Go.Proofs.YtdabcflpcklfiaaGreat

/- What the document says of its second example, the program does. -/
namespace Go.Proofs.YtdabcflpcklfiaaGreat
open Go.RowKit Cad

end Go.Proofs.YtdabcflpcklfiaaGreat
