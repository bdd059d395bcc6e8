import Derived.Test.YtdabcflpcklfiaaGreatRb
import Derived.Deep.RegionHeld
/- A step's job arrives, if it may. -/
namespace Go.Proofs.YtdabcflpcklfiaaGreat
open Go.RowKit Cad

/-- A step of a script, as numbers. -/
structure SD where
  T : Nat → Int
  J : Nat → Int
  U : Nat → Int
  A : Nat → Option Addr
  L : Nat → Nat
  C : Nat → Nat
  R : Nat → Nat → Int

/-- A list of raw numbers. -/
def RawAt (w : World) (ao : Option Addr) (rn : Nat) (R : Nat → Int) : Prop :=
  rn ≤ 9223372036854775806 ∧ (1 ≤ rn → ∃ rb rf, ao = some ⟨rb, rf, none⟩ ∧ rb < w.heap.size ∧ IntsAt w rb rf rn R) ∧ ∀ q, q < rn → I64 (R q)

/-- A script in memory. -/
def ScriptAt (w : World) (b off n : Nat) (X : SD) : Prop := ∀ i, i < n →
  w.cell? ⟨b, off + i * 4, none⟩ = some (.int .i64 (X.T i)) ∧ w.cell? ⟨b, off + i * 4 + 1, none⟩ = some (.int .i64 (X.J i)) ∧ w.cell? ⟨b, off + i * 4 + 2, none⟩ = some (.int .i64 (X.U i)) ∧ w.cell? ⟨b, off + i * 4 + 3, none⟩ = some (.slice (X.A i) (X.L i) (X.C i)) ∧
  I64 (X.T i) ∧ I64 (X.J i) ∧ I64 (X.U i) ∧ RawAt w (X.A i) (X.L i) (X.R i)

theorem RawAt.below {w w' : World} {ao : Option Addr} {rn : Nat} {R : Nat → Int} (h : RawAt w ao rn R) (hb : Below w.heap.size w w') : RawAt w' ao rn R :=
  ⟨h.1, fun h1 => by
    obtain ⟨rb, rf, e, hr, hi⟩ := h.2.1 h1
    exact ⟨rb, rf, e, Nat.lt_of_lt_of_le hr hb.size, fun i hi' => (hb.cell (p := ⟨rb, rf + i, none⟩) hr).trans (hi i hi')⟩, h.2.2⟩

/-- The step's task, jitter and demands. -/
def tkOf (n : Nat) (x : Int) : Nat := (pickI x n).toNat
def jitOf (T : TD) (t : Nat) (x : Int) : Int := pickI x (T.J t + 1)
def demOf (T : TD) (t : Nat) (R : Nat → Int) (rn : Nat) : List Int := demsOf (T.K t) (T.N t) (T.L t) R rn

theorem tkOf_lt {n : Nat} {x : Int} (h : 1 ≤ n) : tkOf n x < n ∧ pickI x n = (tkOf n x : Int) := by
  have := pickI_range (c := x) (n := n) (by omega)
  unfold tkOf
  omega

/-- The kernel behind the step. -/
def stepA (T : TD) (Z : Nat → Int) (n : Nat) (m : Mc) (x y : Int) (R : Nat → Int) (rn : Nat) : Mc × Int :=
  arrive (sysOf T Z n) m (tkOf n x : Int) (jitOf T (tkOf n x) y) (fun q => (demOf T (tkOf n x) R rn).getD q 0) (demOf T (tkOf n x) R rn).length

theorem box4 (w : World) (a b c d : Value) (t : Nat) : (w.alloc (.cells #[a, b, c, d] t)).rowIs w.heap.size t 4 (fun q => if q = 0 then a else if q = 1 then b else if q = 2 then c else d) :=
  World.rowIs_alloc w #[a, b, c, d] t _ (fun i hi => by
    have hi' : i < 4 := hi
    match i, hi' with
    | 0, _ => rfl
    | 1, _ => rfl
    | 2, _ => rfl
    | 3, _ => rfl)

/-- A list of demands of one's own, and a job arrives with them. -/
theorem kst_arriveL {own : Nat → Prop} {w : World} {kb : Nat} {S : Sy} {m : Mc} (hown : ∀ q, own q → q < w.heap.size) (h : KSt own w kb S m) (har : m.arrd < 1000000000000000000) (x jit : Int) (l : List Int) (v : Value) (base : Nat) (hv : w.ownsRow base 3 1 v l.length (l.map (Value.int .i64))) (hl : l.length ≤ 16) :
    Calls Tryz.prog 45 #[.pointer (some ⟨kb, 0, none⟩), .int .i64 x, .int .i64 jit, v] w fun e w' => e = .returned (.int .i64 (arrive S m x jit (fun q => l.getD q 0) l.length).2) ∧ KSt own w' kb S (arrive S m x jit (fun q => l.getD q 0) l.length).1 ∧ Fr (fun q => ¬ own q) w w' := by
  obtain ⟨ao, cap, rfl, hle, hc⟩ := own_shape hv
  by_cases h0 : 1 ≤ l.length
  · obtain ⟨gq, rfl, _, hgl, _⟩ := hc 0 (by omega)
    refine kst_arrive (own := own) x jit gq 0 l.length cap (fun q => l.getD q 0) (some ⟨gq, 0, none⟩) hown h har (by omega) (fun _ => ⟨rfl, hgl, fun i hi => ?_⟩)
    obtain ⟨g', e, _, _, hcell⟩ := hc i hi
    cases e
    rw [Nat.zero_add]
    exact hcell
  · exact kst_arrive (own := own) x jit 0 0 l.length cap (fun q => l.getD q 0) ao hown h har (by omega) (fun g => absurd g h0)

set_option maxRecDepth 100000 in
set_option maxHeartbeats 2000000 in
theorem arrives_walk {own : Nat → Prop} {kb b off n cap rn rc t pb po : Nat} {ro : Option Addr} {T : TD} {S : Sy} {R : Nat → Int} {m : Mc} {w : World} (x y u J : Int) (h1 : 1 ≤ n) (h8 : n ≤ 8) (hown : ∀ q, own q → q < w.heap.size) (hk : KSt own w kb S m) (har : m.arrd < 1000000000000000000)
    (hb : b < w.heap.size) (hpb : pb < w.heap.size) (ht : t < n) (htp : pickI x n = (t : Int)) (hJ : 0 ≤ J ∧ J ≤ 10000) (t2 : w.cell? ⟨b, off + t * 4 + 2, none⟩ = some (.int .i64 J)) (t3 : w.cell? ⟨b, off + t * 4 + 3, none⟩ = some (.slice (some ⟨pb, po, none⟩) (T.L t) (T.C t)))
    (hL : T.L t ≤ 16) (hN : ∀ k, k < T.L t → T.K t k = 1 → 1 ≤ T.N t k ∧ T.N t k ≤ 100) (hst : StepsAt w pb po (T.L t) (T.K t) (T.N t)) (hx : I64 x) (hy : I64 y) (hR : RawAt w ro rn R) (hob : own b) :
    Calls Tryz.prog 26 #[.pointer (some ⟨kb, 0, none⟩), .slice (some ⟨b, off, none⟩) n cap, .agg #[.int .i64 x, .int .i64 y, .int .i64 u, .slice ro rn rc]] w fun e w' =>
      e = .returned (.tuple #[.int .i64 (t : Int), .bool (decide ((arrive S m (t : Int) (pickI y (J + 1)) (fun q => (demOf T t R rn).getD q 0) (demOf T t R rn).length).2 = 0))]) ∧
      KSt own w' kb S (arrive S m (t : Int) (pickI y (J + 1)) (fun q => (demOf T t R rn).getD q 0) (demOf T t R rn).length).1 ∧ Fr (fun q => ¬ own q) w w' := by
  have HP1 : Hid (∀ w', Calls Tryz.prog 10 #[.int .i64 x, .int .i64 n] w' fun e w'' => e = .returned (.int .i64 (t : Int)) ∧ w'' = w') := fun w' => by
    have := pick_any x n w' hx (by omega) (by omega)
    rwa [htp] at this
  have HP2 : Hid (∀ w', Calls Tryz.prog 10 #[.int .i64 y, .int .i64 (J + 1)] w' fun e w'' => e = .returned (.int .i64 (pickI y (J + 1))) ∧ w'' = w') := fun w' => pick_any y (J + 1) w' hy (by omega) (by omega)
  have hbx := box4 w (.int .i64 x) (.int .i64 y) (.int .i64 u) (.slice ro rn rc) 42
  have HBE : Hid (Below w.heap.size w (w.alloc (.cells #[.int .i64 x, .int .i64 y, .int .i64 u, .slice ro rn rc] 42))) := below_alloc1 _ _
  have HKO : Hid (KSt (fun q => own q ∨ q = w.heap.size) (w.alloc (.cells #[.int .i64 x, .int .i64 y, .int .i64 u, .slice ro rn rc] 42)) kb S m) := (hk.more (own' := fun q => own q ∨ q = w.heap.size) (by
    rintro q (h | h)
    · exact .inl h
    · exact .inr (by omega))).below HBE.out
  have hdl : (demOf T t R rn).length ≤ 16 := by unfold demOf; rw [demsOf_len]; have := cmpTo_le (T.K t) (T.L t); omega
  have HDM : Hid (∀ w1, Below (w.heap.size + 1) (w.alloc (.cells #[.int .i64 x, .int .i64 y, .int .i64 u, .slice ro rn rc] 42)) w1 → Calls Tryz.prog 27 #[.slice (some ⟨pb, po, none⟩) (T.L t) (T.C t), .slice ro rn rc] w1 fun e w2 => ∃ v, e = .returned v ∧
      (w2.cell? ⟨w.heap.size, 1, none⟩ = some (.int .i64 y) ∧ w2.cell? ⟨b, off + t * 4 + 2, none⟩ = some (.int .i64 J) ∧ w2.cell? ⟨b, off + t * 4 + 3, none⟩ = some (.slice (some ⟨pb, po, none⟩) (T.L t) (T.C t)) ∧ w2.cell? ⟨w.heap.size, 3, none⟩ = some (.slice ro rn rc)) ∧
      Hid (Calls Tryz.prog 45 #[.pointer (some ⟨kb, 0, none⟩), .int .i64 (t : Int), .int .i64 (pickI y (J + 1)), v] w2 fun e w' => ∃ r, e = .returned (.int .i64 r) ∧ 
        (w'.cell? ⟨w.heap.size, 1, none⟩ = some (.int .i64 y) ∧ w'.cell? ⟨b, off + t * 4 + 2, none⟩ = some (.int .i64 J) ∧ w'.cell? ⟨b, off + t * 4 + 3, none⟩ = some (.slice (some ⟨pb, po, none⟩) (T.L t) (T.C t)) ∧ w'.cell? ⟨w.heap.size, 3, none⟩ = some (.slice ro rn rc)) ∧
        Hid (r = (arrive S m (t : Int) (pickI y (J + 1)) (fun q => (demOf T t R rn).getD q 0) (demOf T t R rn).length).2 ∧ KSt own w' kb S (arrive S m (t : Int) (pickI y (J + 1)) (fun q => (demOf T t R rn).getD q 0) (demOf T t R rn).length).1 ∧ Fr (fun q => ¬ own q) w w'))) := by
    intro w1 hb1
    have hb01 : Below w.heap.size w w1 := HBE.out.trans (hb1.mono (by omega))
    have hs1 := hb01.size
    have hs1' := hb1.size
    simp only [World.size_alloc] at hs1'
    refine (dems_any pb po (T.L t) (T.C t) rn rc ro (T.K t) (T.N t) R w1 hL hN (by omega) (fun k hk => ⟨(hb01.cell (p := ⟨pb, po + k * 2, none⟩) hpb).trans (hst k hk).1, (hb01.cell (p := ⟨pb, po + k * 2 + 1, none⟩) hpb).trans (hst k hk).2⟩) hR.1 (hR.below hb01).2.1 hR.2.2).mono ?_
    rintro e w2 ⟨v, rfl, hown2, hb2⟩
    have hb02 : Below (w.heap.size + 1) (w.alloc (.cells #[.int .i64 x, .int .i64 y, .int .i64 u, .slice ro rn rc] 42)) w2 := hb1.trans (hb2.mono (by omega))
    have hs2 := hb2.size
    have hk2 : KSt (fun q => own q ∨ q = w.heap.size) w2 kb S m := HKO.out.below (by rw [World.size_alloc]; exact hb02)
    have cB : ∀ q, w2.cell? ⟨b, q, none⟩ = w.cell? ⟨b, q, none⟩ := fun q => (hb02.cell (p := ⟨b, q, none⟩) (by show b < w.heap.size + 1; omega)).trans (HBE.out.cell (p := ⟨b, q, none⟩) hb)
    have cX : ∀ q, w2.cell? ⟨w.heap.size, q, none⟩ = (w.alloc (.cells #[.int .i64 x, .int .i64 y, .int .i64 u, .slice ro rn rc] 42)).cell? ⟨w.heap.size, q, none⟩ := fun q => hb02.cell (p := ⟨w.heap.size, q, none⟩) (by show w.heap.size < w.heap.size + 1; omega)
    refine ⟨v, rfl, ⟨(cX 1).trans (hbx.cell (by omega)), (cB _).trans t2, (cB _).trans t3, (cX 3).trans (hbx.cell (by omega))⟩, ?_⟩
    have hown' : ∀ q, (own q ∨ q = w.heap.size) → q < w2.heap.size := by
      rintro q (h | h)
      · have := hown q h; omega
      · omega
    refine (kst_arriveL hown' hk2 har (t : Int) (pickI y (J + 1)) (demOf T t R rn) v _ hown2 hdl).mono ?_
    rintro e w3 ⟨rfl, hk3, hf3⟩
    have dB : ∀ q, w3.cell? ⟨b, q, none⟩ = w2.cell? ⟨b, q, none⟩ := fun q => hf3.cell (by omega) (fun h => h (.inl hob))
    have dX : ∀ q, w3.cell? ⟨w.heap.size, q, none⟩ = w2.cell? ⟨w.heap.size, q, none⟩ := fun q => hf3.cell (by omega) (fun h => h (.inr rfl))
    refine ⟨_, rfl, ⟨(dX 1).trans ((cX 1).trans (hbx.cell (by omega))), (dB _).trans ((cB _).trans t2), (dB _).trans ((cB _).trans t3), (dX 3).trans ((cX 3).trans (hbx.cell (by omega)))⟩, rfl, hk3.more (fun q h => .inl (.inl h)), ?_⟩
    have f1 : Fr (fun q => ¬ own q) w w2 := Fr.of_below _ (hb01.trans (hb2.mono (by omega)))
    exact f1.trans hf3 (fun q hq => by
      by_cases e : own q
      · exact absurd (.inl e) hq
      · exact .inl e)
  have s1 : (w.alloc (.cells #[.int .i64 x, .int .i64 y, .int .i64 u, .slice ro rn rc] 42)).cell? ⟨w.heap.size, 1, none⟩ = some (.int .i64 y) := hbx.cell (by omega)
  have s2 : (w.alloc (.cells #[.int .i64 x, .int .i64 y, .int .i64 u, .slice ro rn rc] 42)).cell? ⟨b, off + t * 4 + 2, none⟩ = some (.int .i64 J) := (HBE.out.cell (p := ⟨b, off + t * 4 + 2, none⟩) hb).trans t2
  have s3 : (w.alloc (.cells #[.int .i64 x, .int .i64 y, .int .i64 u, .slice ro rn rc] 42)).cell? ⟨b, off + t * 4 + 3, none⟩ = some (.slice (some ⟨pb, po, none⟩) (T.L t) (T.C t)) := (HBE.out.cell (p := ⟨b, off + t * 4 + 3, none⟩) hb).trans t3
  have s4 : (w.alloc (.cells #[.int .i64 x, .int .i64 y, .int .i64 u, .slice ro rn rc] 42)).cell? ⟨w.heap.size, 3, none⟩ = some (.slice ro rn rc) := hbx.cell (by omega)
  have s0 : (w.alloc (.cells #[.int .i64 x, .int .i64 y, .int .i64 u, .slice ro rn rc] 42)).cell? ⟨w.heap.size, 0, none⟩ = some (.int .i64 x) := hbx.cell (by omega)
  clear hk hst hN hR hx hy htp hbx t2 t3 HKO
  go_enter Tryz.func26, Tryz.ntmps26
  go_wp2_with fail
  refine (HP1.out _).mono ?_
  rintro e w1 ⟨rfl, rfl⟩
  generalize w.alloc (.cells #[.int .i64 x, .int .i64 y, .int .i64 u, .slice ro rn rc] 42) = W0 at *
  generalize hbxe : w.heap.size = bx at *
  generalize hpj : pickI y (J + 1) = pj at *
  have HPJ : Hid (pickI y (J + 1) = pj) := hpj
  clear HP1 s0 HBE hbxe hpj
  have HWR : Hid (IntKind.i64.wrap (J + 1) = J + 1) := by unfold Hid; simp [IntKind.wrap, IntKind.bits, IntKind.signed]; omega
  have HD1 : Hid (Calls Tryz.prog 27 #[.slice (some ⟨pb, po, none⟩) (T.L t) (T.C t), .slice ro rn rc] W0.drew fun e w2 => ∃ v, e = .returned v ∧
      (w2.cell? ⟨bx, 1, none⟩ = some (.int .i64 y) ∧ w2.cell? ⟨b, off + t * 4 + 2, none⟩ = some (.int .i64 J) ∧ w2.cell? ⟨b, off + t * 4 + 3, none⟩ = some (.slice (some ⟨pb, po, none⟩) (T.L t) (T.C t)) ∧ w2.cell? ⟨bx, 3, none⟩ = some (.slice ro rn rc)) ∧
      Hid (Calls Tryz.prog 45 #[.pointer (some ⟨kb, 0, none⟩), .int .i64 (t : Int), .int .i64 pj, v] w2 fun e w' => ∃ r, e = .returned (.int .i64 r) ∧
        (w'.cell? ⟨bx, 1, none⟩ = some (.int .i64 y) ∧ w'.cell? ⟨b, off + t * 4 + 2, none⟩ = some (.int .i64 J) ∧ w'.cell? ⟨b, off + t * 4 + 3, none⟩ = some (.slice (some ⟨pb, po, none⟩) (T.L t) (T.C t)) ∧ w'.cell? ⟨bx, 3, none⟩ = some (.slice ro rn rc)) ∧
        Hid (r = (arrive S m (t : Int) pj (fun q => (demOf T t R rn).getD q 0) (demOf T t R rn).length).2 ∧ KSt own w' kb S (arrive S m (t : Int) pj (fun q => (demOf T t R rn).getD q 0) (demOf T t R rn).length).1 ∧ Fr (fun q => ¬ own q) w w'))) := HDM.out _ (below_drewM (Below.refl _ _) 1)
  clear HDM
  go_wp2_with fail
  go_region_held (fun w' => w'.cell? ⟨bx, 1, none⟩ = some (.int .i64 y) ∧ w'.cell? ⟨b, off + t * 4 + 2, none⟩ = some (.int .i64 J) ∧ w'.cell? ⟨b, off + t * 4 + 3, none⟩ = some (.slice (some ⟨pb, po, none⟩) (T.L t) (T.C t)) ∧ w'.cell? ⟨bx, 3, none⟩ = some (.slice ro rn rc)) (first | go_keep | exact hcells2 | exact hcells) (first
    | (go_at_call 10; rw [HWR.out]; refine (HP2.out _).mono ?_; rintro e w5 ⟨rfl, rfl⟩)
    | (go_at_call 27; refine (HD1.out).mono ?_; rintro e w5 ⟨v5, rfl, hcells, hc29⟩)
    | (go_at_call 45; refine hc29.out.mono ?_; rintro e w6 ⟨r, rfl, hcells2, hks⟩))
  clear hcells hcells2 HD1 HP2
  go_wp2
  go_ret2
  obtain ⟨hre, hks1, hfr⟩ := hks.out
  exact ⟨by rw [HPJ.out, ← hre]; rfl, by rw [HPJ.out]; exact hks1, hfr⟩

theorem arrives_any {own : Nat → Prop} {kb b off n cap rn rc : Nat} {ro : Option Addr} {T : TD} {Z R : Nat → Int} {m : Mc} {w : World} (x y u : Int) (hG : Good T n) (hown : ∀ q, own q → q < w.heap.size) (hob : own b) (hk : KSt own w kb (sysOf T Z n) m) (har : m.arrd < 1000000000000000000)
    (hT : TasksAt w b off n T) (hx : I64 x) (hy : I64 y) (hR : RawAt w ro rn R) :
    Calls Tryz.prog 26 #[.pointer (some ⟨kb, 0, none⟩), .slice (some ⟨b, off, none⟩) n cap, .agg #[.int .i64 x, .int .i64 y, .int .i64 u, .slice ro rn rc]] w fun e w' =>
      e = .returned (.tuple #[.int .i64 (tkOf n x : Int), .bool (decide ((stepA T Z n m x y R rn).2 = 0))]) ∧ KSt own w' kb (sysOf T Z n) (stepA T Z n m x y R rn).1 ∧ Fr (fun q => ¬ own q) w w' := by
  obtain ⟨htk, htp⟩ := tkOf_lt (x := x) hG.one
  obtain ⟨t0, t1, t2, t3, tp⟩ := hT (tkOf n x) htk
  have htm := hG.times (tkOf n x) htk
  obtain ⟨hl1, hl16, _, hpi⟩ := progB_inv (hG.prog (tkOf n x) htk)
  obtain ⟨pb, po, hA, hpb, hst⟩ := tp.2 hl1
  rw [hA] at t3
  exact arrives_walk x y u (T.J (tkOf n x)) hG.one hG.eight hown hk har (hown b hob) hpb htk htp ⟨by omega, by omega⟩ t2 t3 hl16 (fun k hk h1 => by
    rcases hpi.steps k hk with h | h | h
    · exact h.2
    · omega
    · omega) hst hx hy hR hob

end Go.Proofs.YtdabcflpcklfiaaGreat
