import Derived.Test.YtdabcflpcklfiaaGreatR53
import Derived.Test.YtdabcflpcklfiaaGreatRows
import Derived.Test.YtdabcflpcklfiaaGreatR28
import Derived.Test.YtdabcflpcklfiaaGreatR29
import Derived.Shelf.SlSortCmp.NoneTotal
import Derived.Ground.SlsfProg
/- The law Runs, walked. -/
namespace Go.Proofs.YtdabcflpcklfiaaGreat
open Go.RowKit Cad

theorem fresh_lm {w : World} {Wb : Nat} (hW : w.rowIs Wb 32 9 (wf9 (.slice none 0 0) (.slice none 0 0) fnil)) : LM (fun q => q = Wb) w Wb nilV nilC 0 := by
  refine ⟨hW.congr (fun q hq => ?_), fun i hi => World.ownsRow_nil _ _ _ _, rfl, fun i hi b hb => ?_, fun i j hi hj hij => .inl rfl⟩
  · unfold lrow
    match q, hq with
    | 0, _ => rfl
    | 1, _ => rfl
    | 2, _ => rfl
    | 3, _ => rfl
    | 4, _ => rfl
    | 5, _ => rfl
    | 6, _ => rfl
    | 7, _ => rfl
    | 8, _ => rfl
  · have hb' : (Value.slice none 0 0).ownBlock = some b := hb
    simp [Value.ownBlock] at hb'

theorem fresh_le (w : World) : LE (fun _ => False) w nilC :=
  ⟨rfl, fun i v h => by simp [nilC] at h, rfl, fun i v h => by simp [nilC] at h, fun v h => by simp [nilC] at h, fun v h => by simp [nilC] at h, fun v h => by simp [nilC] at h⟩

theorem bd_start {r : Nat} {C : Nat → List Value} (hr : r ≤ 10000000) (hC : ∀ i, i < 8 → (C i).length + 4 * r ≤ 1000000000) : BD r Cad.start C 0 :=
  ⟨by show (0 : Int) + _ ≤ _; omega, by show (0 : Int) + _ ≤ _; omega, hC, by omega, by omega⟩

/-- No side came of it. -/
theorem px_none {B0 r n Wb : Nat} {w w' : World} {M' E' : Nat → Prop} {V' : Nat → Value} {C' : Nat → List Value} (hB0 : B0 ≤ w.heap.size) (hWb : B0 ≤ Wb) (h : OpenE w w' Wb n (fun q => q = Wb) (fun _ => False) M' E' V' nilC C' 0) (hr : r ≤ 10000000) (hn : n ≤ 10000000) (sb xb yb : Nat → Nat) (S : Nat → Sy) : PX B0 r 0 Wb w w' sb xb yb S := by
  have hcl : ∀ i, i < 8 → (C' i).length + 4 * r ≤ 1000000000 := fun i hi => by
    have h1 : (C' i).length ≤ 0 + n + 1 := h.cl i hi
    omega
  refine ⟨fun _ => Cad.start, fun _ _ => False, fun _ _ => False, M', E', V', C', 0, ⟨fun i hi => by omega, fun i j hi => by omega, h.lm, h.le, fun i hi => by omega, fun i hi => by omega, fun i j hi => by omega, fun i hi => by omega, ?_, fun q hq => ⟨fun g => ?_, fun i hi => by omega⟩, ?_, hB0⟩, fun i hi => by omega, hcl⟩
  · rw [h.c0]
    rfl
  · rcases h.mf q g with e | e
    · omega
    · omega
  · exact h.fr.below hB0 (fun q g => by omega)

/-- One side came of it. -/
theorem px_one {B0 r n Wb : Nat} {w w' : World} {M' E' FK FR : Nat → Prop} {V' : Nat → Value} {C' : Nat → List Value} {S : Sy} {sd xb yb : Nat} (hB0 : B0 ≤ w.heap.size) (hWb : B0 ≤ Wb) (h : OSide w w' Wb n (fun q => q = Wb) (fun _ => False) M' E' V' nilC C' 0 S sd xb yb FK FR) (hr : r ≤ 10000000) (hn : n ≤ 10000000) : PX B0 r 1 Wb w w' (fun _ => sd) (fun _ => xb) (fun _ => yb) (fun _ => S) := by
  have hcl : ∀ i, i < 8 → (C' i).length + 4 * r ≤ 1000000000 := fun i hi => by
    have h1 : (C' i).length ≤ 0 + n + 1 := h.cl i hi
    omega
  refine ⟨fun _ => Cad.start, fun _ => FK, fun _ => FR, M', E', V', C', 0, ⟨fun i hi => h.st, fun i j hi hj hij => by omega, h.st.lm, h.st.le, fun i hi => h.s0, fun i hi => h.s1, fun i j hi hj g => ?_, fun i hi g => h.sn (.inr (.inr g)), ?_, fun q hq => ⟨fun g => ?_, fun i hi => ⟨fun g => ?_, fun g => ?_⟩⟩, ?_, hB0⟩, fun i hi => bd_start hr hcl, hcl⟩
  · rcases g with g | g
    · exact h.sn (.inl g)
    · exact h.sn (.inr (.inl g))
  · rw [h.c0]
    rfl
  · rcases h.mf q g with e | e
    · omega
    · omega
  · have := h.kf q g; omega
  · have := h.rf q g; omega
  · exact h.fr.below hB0 (fun q g => by omega)

theorem opens_fresh {B0 b off n cap Wb pn pc r : Nat} {tO ao : Option Addr} {T : TD} {Z : Nat → Int} {w : World} (ha : TArg w B0 b n tO off T) (hp : PArg w B0 pn ao Z) (hW : w.rowIs Wb 32 9 (wf9 (.slice none 0 0) (.slice none 0 0) fnil)) (hWb : B0 ≤ Wb) (hB0 : B0 ≤ w.heap.size) (hn : n ≤ 10000000) (hr : r ≤ 10000000) :
    Calls Tryz.prog 6 #[.pointer (some ⟨Wb, 0, none⟩), .slice tO n cap, .slice ao pn pc] w fun e w' => e = .returned (.bool true) ∧ ∃ k, k ≤ 1 ∧ ∃ sb xb yb S, PX B0 r k Wb w w' sb xb yb S := by
  have hlm := fresh_lm hW
  have hle := fresh_le w
  have hWl := hW.lt
  have hd : Dis (fun q => q = Wb) (fun _ => False) := fun q _ h => h
  have loM : Lo (fun q => q = Wb) w.heap.size := fun q h => by omega
  have loE : Lo (fun _ => False) w.heap.size := fun q h => h.elim
  have hMB : ∀ q, (fun q => q = Wb) q → B0 ≤ q := fun q h => by have e : q = Wb := h; omega
  have hC5 : ∀ i, i < 8 → (nilC i).length ≤ 100000000 := fun i _ => by show 0 ≤ _; omega
  have hret := fun (w1 w5 : World) (S : Nat → Nat) (v : Value) (h1 : LentInv w.heap.size n n T S v w w1) (h2 : Below w1.heap.size w1 w5) => ret_fresh (cap := cap) ha hB0 hWb hW h1 h2
  have bad : ∀ (Er Ax : Int), (∀ (S : Nat → Nat) (wx : World), TasksAt wx w.heap.size 0 n (T.lent S) → w.heap.size < wx.heap.size → ∀ qb, qb < wx.heap.size → IntsAt wx qb 0 pn Z → Calls Tryz.prog 18 #[.slice (some ⟨w.heap.size, 0, none⟩) n (n + 1), .slice (some ⟨qb, 0, none⟩) pn (pn + 1)] wx fun e w' => e = .returned (.tuple #[.pointer none, .int .i64 Er, .int .i64 Ax]) ∧ Below wx.heap.size wx w') →
      (∀ wx, Below w.heap.size w wx → Calls Tryz.prog 19 #[.slice tO n cap, .slice ao pn pc] wx fun e w' => e = .returned (.tuple #[.pointer none, .int .i64 Er, .int .i64 Ax]) ∧ Below wx.heap.size wx w') →
      Calls Tryz.prog 6 #[.pointer (some ⟨Wb, 0, none⟩), .slice tO n cap, .slice ao pn pc] w fun e w' => e = .returned (.bool true) ∧ ∃ k, k ≤ 1 ∧ ∃ sb xb yb S, PX B0 r k Wb w w' sb xb yb S := by
    intro Er Ax hk hr'
    refine Calls.mono (opens_bad hlm hle hd loM loE hMB hC5 ha hp hB0 hk hr' hret) ?_
    rintro e w' ⟨he, M', E', V', C', hop⟩
    exact ⟨he, 0, by omega, fun _ => 0, fun _ => 0, fun _ => 0, fun _ => sysOf T Z n, px_none hB0 hWb hop hr hn _ _ _ _⟩
  obtain ⟨x, y, hxy⟩ : ∃ x y, chkR T n = (x, y) := ⟨_, _, rfl⟩
  by_cases hx : x = 0
  · subst hx
    obtain ⟨hg, rfl⟩ := good_of_chk hxy
    have h1 := hg.one
    obtain ⟨rfl, hbB⟩ := ha.some' h1
    by_cases hpp : pn = n ∧ PrioB Z n
    · obtain ⟨rfl, hpr⟩ := hpp
      refine Calls.mono (opens_ok hlm hle hd loM loE hMB hC5 ha hp hB0 hxy rfl hpr hret) ?_
      rintro e w' ⟨he, M', E', V', C', sd, xb, yb, FK, FR, hos⟩
      exact ⟨he, 1, by omega, _, _, _, _, px_one hB0 hWb hos hr hn⟩
    · refine bad 4 0 (fun S wx ht hlt qb hq hz => ?_) (fun wx hb => ?_)
      · refine new_ord w.heap.size 0 n (n + 1) (some ⟨qb, 0, none⟩) pn (pn + 1) (T.lent S) wx hxy hlt ht ?_
        by_cases e : pn = n
        · exact .inr ⟨qb, 0, Z, rfl, e, hq, by rw [← e]; exact hz, fun g => hpp ⟨e, g⟩⟩
        · exact .inl e
      · have hz := hb.size
        refine rnew_bad (refana_ord b off n cap ao pn pc T wx hxy (by omega) (TasksAt.below ha.tasks (by omega) hb) ?_) (by decide)
        by_cases e : pn = n
        · obtain ⟨pb, po, e1, e2, e3⟩ := hp.2 (by omega)
          exact .inr ⟨pb, po, Z, e1, e, by omega, by rw [← e]; exact IntsAt.below e3 (by omega) hb, fun g => hpp ⟨e, (order_iff Z n).1 g⟩⟩
        · exact .inl e
  · refine bad x y (fun S wx ht hlt qb hq hz => new_err w.heap.size 0 n (n + 1) _ (T.lent S) x y wx hxy hx (by have := ha.n8; omega) hlt ht) (fun wx hb => ?_)
    by_cases h1 : 1 ≤ n
    · obtain ⟨rfl, hbB⟩ := ha.some' h1
      exact rnew_bad (refana_err b off n cap _ T x y wx hxy hx (by have := ha.n8; omega) (by have := hb.size; omega) (TasksAt.below ha.tasks (by omega) hb)) hx
    · obtain rfl : n = 0 := by omega
      have e : chkR T 0 = (1, 0) := by unfold chkR; rw [if_neg (by omega)]
      rw [e] at hxy
      cases hxy
      exact rnew_bad (refana_none2 tO cap _ wx) (by decide)

set_option maxRecDepth 100000 in
set_option maxHeartbeats 4000000 in
theorem runs_any (hS : SortC) {b off n cap pn pc sb so ns sc : Nat} {tO ao oO : Option Addr} {T : TD} {Z : Nat → Int} {X : OD} {W : World} (ha : TArg W W.heap.size b n tO off T) (hp : PArg W W.heap.size pn ao Z) (hn : n ≤ 2000000) (hns : ns ≤ 2000000) (hoO : 1 ≤ ns → oO = some ⟨sb, so, none⟩ ∧ sb < W.heap.size) (hX : OpsAt W W.heap.size sb so ns X) :
    Calls Tryz.prog 3 #[.slice tO n cap, .slice ao pn pc, .slice oO ns sc] W fun e w' => e = .returned (.bool true) ∧ Below W.heap.size W w' := by
  obtain ⟨W1, hW1⟩ : ∃ W1, W1 = W.alloc (.cells #[.slice none 0 0, .slice none 0 0, .slice none 0 0, .slice none 0 0, .slice none 0 0, .slice none 0 0, .slice none 0 0, .slice none 0 0, .int .i64 0] 32) := ⟨_, rfl⟩
  have hrow := world_row W
  rw [← hW1] at hrow
  have hb1 : Below W.heap.size W W1 := by rw [hW1]; exact below_alloc1 _ _
  have ha1 : TArg W1 W.heap.size b n tO off T := ⟨ha.some', fun i hi => by
    obtain ⟨_, hb⟩ := ha.some' (by omega)
    exact TasksAt.below ha.tasks hb hb1 i hi, ha.progs, ha.n8, ha.l8⟩
  have hp1 : PArg W1 W.heap.size pn ao Z := ⟨hp.1, fun h => by
    obtain ⟨pb, po, e1, e2, e3⟩ := hp.2 h
    exact ⟨pb, po, e1, e2, IntsAt.below e3 e2 hb1⟩⟩
  have hX1 : OpsAt W1 W.heap.size sb so ns X := fun i hi => by
    obtain ⟨_, hb⟩ := hoO (by omega)
    obtain ⟨x0, x1, x2, x3, x4, x5, x6⟩ := hX i hi
    refine ⟨(hb1.cell (p := ⟨sb, so + i * 5, none⟩) hb).trans x0, (hb1.cell (p := ⟨sb, so + i * 5 + 1, none⟩) hb).trans x1, (hb1.cell (p := ⟨sb, so + i * 5 + 2, none⟩) hb).trans x2, (hb1.cell (p := ⟨sb, so + i * 5 + 3, none⟩) hb).trans x3, (hb1.cell (p := ⟨sb, so + i * 5 + 4, none⟩) hb).trans x4, x5, fun h => ?_⟩
    obtain ⟨rb, rf, e1, e2, e3⟩ := x6 h
    exact ⟨rb, rf, e1, e2, IntsAt.below e3 e2 hb1⟩
  have HOP : Hid _ := opens_fresh (cap := cap) (pc := pc) (r := ns + 24) ha1 hp1 hrow (Nat.le_refl _) hb1.size (by omega) (by omega)
  have HPL : Hid (∀ w', (∃ k, k ≤ 1 ∧ ∃ sb xb yb S, PX W.heap.size (ns + 24) k W.heap.size W1 w' sb xb yb S) → Calls Tryz.prog 7 #[.pointer (some ⟨W.heap.size, 0, none⟩), .slice oO ns sc] w' fun e w'' => e = .returned (.bool true) ∧ True ∧ Hid (Below W.heap.size W w'')) := by
    rintro w' ⟨k, hk, sbs, xbs, ybs, S, hpx⟩
    have fin : ∀ k w'', PX W.heap.size 0 k W.heap.size W1 w'' sbs xbs ybs S → Below W.heap.size W w'' := fun k w'' h => by
      obtain ⟨m, FK, FR, M, E, V, C, last, hp, _, _⟩ := h
      exact hb1.trans hp.below
    by_cases hk0 : k = 0
    · subst hk0
      refine Calls.mono (play_0 hpx) ?_
      rintro e w'' ⟨he, hh⟩
      exact ⟨he, trivial, fin _ _ hh⟩
    · obtain rfl : k = 1 := by omega
      refine Calls.mono (play_1 hS hpx (by omega) hoO hb1.size hX1) ?_
      rintro e w'' ⟨he, hh⟩
      exact ⟨he, trivial, fin _ _ hh⟩
  have HW1 : Hid (W1 = W.alloc (.cells #[.slice none 0 0, .slice none 0 0, .slice none 0 0, .slice none 0 0, .slice none 0 0, .slice none 0 0, .slice none 0 0, .slice none 0 0, .int .i64 0] 32)) := hW1
  clear hW1 hrow ha1 hp1 hX1 ha hp hX hoO
  go_enter Tryz.func3, Tryz.ntmps3
  go_wp2_with fail
  rw [← HW1.out]
  refine Calls.mono HOP.out ?_
  rintro e w1 ⟨rfl, hpx⟩
  have HPX : Hid _ := HPL.out w1 hpx
  clear hpx HW1
  go_wp2_with fail
  refine Calls.mono HPX.out ?_
  rintro e w2 ⟨rfl, _, hb2⟩
  go_wp2
  go_ret
  exact ⟨rfl, hb2.out⟩

end Go.Proofs.YtdabcflpcklfiaaGreat

/- What came in, opened: tasks, numbers, a script; and how much of it there can be. -/
namespace Go.Proofs.YtdabcflpcklfiaaGreat
open Go.RowKit Go.Deep Go.ChangeShapes Go.WideShapes

theorem bulk_one {H : Type} (d : DataW H) : 1 ≤ Rows.uptoBulk d := by
  cases d with
  | lit l => cases l <;> simp [Rows.uptoBulk]
  | nil => simp [Rows.uptoBulk]
  | ptr d => simp [Rows.uptoBulk]
  | slice elems spare => simp [Rows.uptoBulk]
  | agg parts => simp [Rows.uptoBulk]
  | iface t d => simp [Rows.uptoBulk]
  | map entries => simp [Rows.uptoBulk]
  | held h => simp [Rows.uptoBulk]

theorem bulk_length {H : Type} (l : List (DataW H)) : l.length ≤ Rows.uptoBulkAll l := by
  induction l with
  | nil => simp [Rows.uptoBulkAll]
  | cons x r ih => have := bulk_one x; simp only [Rows.uptoBulkAll, List.length_cons]; omega

theorem bulk_slice {H : Type} (elems spare : List (DataW H)) : elems.length + 1 ≤ Rows.uptoBulk (.slice elems spare) := by
  have h1 := bulk_length elems
  simp only [Rows.uptoBulk]
  omega

/-- A slice is no longer than its bulk. -/
theorem open_len {H : Type} {enc : TypeId × Value → H} {W : World} {fuel : Nat} {v : Value} {t e : TypeId} {x : DataW H × List MemPlace} (ht : Tryz.prog.underlying t = some (.slice e)) (h : DataW.trod enc Tryz.prog W 0 (fun _ => true) true fuel t [v] = some x) {A : Option Addr} {n cap : Nat} (hv' : v = .slice A n cap) : n ≤ Rows.uptoBulk x.1 := by
  rcases open_slice ht h with ⟨hv, _⟩ | ⟨a, l, c, m, k, D, Pl, hv, _, hlc, _, hm, rfl, hx⟩
  · rw [hv'] at hv
    cases hv
    exact Nat.zero_le _
  · simp only [if_true] at hm
    have hm2 := hm.symm
    subst hm2
    rw [hv'] at hv
    have hn : n = l := by
      simp at hv
      exact hv.2.1
    subst hn
    refine Nat.le_trans ?_ (Nat.le_of_succ_le (bulk_slice _ _))
    simp

theorem Tryz.cells64 : Tryz.prog.cellsOf 64 = 5 := by kernel_rfl
theorem Tryz.cells4 : Tryz.prog.cellsOf 4 = 1 := by kernel_rfl

/-- One step of a script. -/
structure OpIn (W : World) (a : Addr) (t j u : Int) (A : Option Addr) (l c : Nat) (R : Nat → Int) (wh : Bool) : Prop where
  c0 : W.cell? a = some (.int .i64 t)
  c1 : W.cell? (a.add 1) = some (.int .i64 j)
  c2 : W.cell? (a.add 2) = some (.int .i64 u)
  c3 : W.cell? (a.add 3) = some (.slice A l c)
  c4 : W.cell? (a.add 4) = some (.bool wh)
  l8 : l * 8 ≤ 140737488351232
  raw : 1 ≤ l → ∃ rb rf, A = some ⟨rb, rf, none⟩ ∧ rb < W.heap.size ∧ IntsAt W rb rf l R

set_option maxRecDepth 100000 in
theorem open_ops {H : Type} {enc : TypeId × Value → H} {W : World} {fuel : Nat} {v : Value} {x : DataW H × List MemPlace} (h : DataW.trod enc Tryz.prog W 0 (fun _ => true) true fuel 24 [v] = some x) (hr : ∀ n ∈ x.1.weights Tryz.prog 24, n ≤ reachBytes) :
    ∃ (A : Option Addr) (n cap : Nat) (X : OD) (b off : Nat), v = .slice A n cap ∧ n ≤ Rows.uptoBulk x.1 ∧ (1 ≤ n → A = some ⟨b, off, none⟩ ∧ b < W.heap.size) ∧ OpsAt W W.heap.size b off n X := by
  have hlen := fun (A : Option Addr) (n cap : Nat) (hv : v = .slice A n cap) => open_len Tryz.underlying24 h hv
  rcases open_slice Tryz.underlying24 h with ⟨hv, _⟩ | ⟨a, l, c, m, n, D, Pl, hv, _, hlc, _, hm, rfl, hx⟩
  · cases hv
    exact ⟨none, 0, 0, ⟨fun _ => 0, fun _ => 0, fun _ => 0, fun _ => none, fun _ => 0, fun _ => 0, fun _ => false, fun _ _ => 0⟩, 0, 0, rfl, Nat.zero_le _, fun h => by omega, fun i hi => by omega⟩
  · simp only [if_true] at hm
    have hm2 := hm.symm
    subst hm2
    rw [Tryz.cells64] at hx
    have each : ∀ i, i < l → ∃ z : Int × Int × Int × Option Addr × Nat × Nat × (Nat → Int) × Bool, OpIn W (a.add (i * 5)) z.1 z.2.1 z.2.2.1 z.2.2.2.1 z.2.2.2.2.1 z.2.2.2.2.2.1 z.2.2.2.2.2.2.1 z.2.2.2.2.2.2.2 := by
      intro i hi
      obtain ⟨cs', h1, h2⟩ := hx i (by omega)
      obtain ⟨_, hlen', hcell⟩ := World.cells?_some h1
      obtain ⟨xs, k, hk, hxy, _, hxl, hf⟩ := DataW.trod_struct Tryz.underlying64 h2
      match xs, hxl, cs', hlen' with
      | [y0, y1, y2, y3, y4], _, [v0, v1, v2, v3, v4], _ =>
        have g0 := hf 0 _ rfl
        have g1 := hf 1 _ rfl
        have g2 := hf 2 _ rfl
        have g3 := hf 3 _ rfl
        have g4 := hf 4 _ rfl
        simp [Tryz.cells3, Tryz.cells23, Tryz.cells4] at g0 g1 g2 g3 g4
        have q0 := hcell 0 (by omega)
        have q1 := hcell 1 (by omega)
        have q2 := hcell 2 (by omega)
        have q3 := hcell 3 (by omega)
        have q4 := hcell 4 (by omega)
        obtain ⟨n0, e0, _, w0⟩ := DataW.trod_int Tryz.underlying3 g0
        obtain ⟨n1, e1, _, w1⟩ := DataW.trod_int Tryz.underlying3 g1
        obtain ⟨n2, e2, _, w2⟩ := DataW.trod_int Tryz.underlying3 g2
        obtain ⟨b4, e4, _⟩ := DataW.trod_bool Tryz.underlying4 g4
        simp at e0 e1 e2 e4
        subst e0 e1 e2 e4
        have hD : D i = .agg [y0.1, y1.1, y2.1, y3.1, y4.1] := by simpa using (Prod.mk.injEq _ _ _ _ ▸ hxy).1
        obtain ⟨A, pl, pc, R, rfl, hl8, hraw⟩ := open_nums g3 (fun n hn => hr n (by
          simp only [DataW.weights, Tryz.underlying24, List.mem_cons, List.mem_append]
          refine .inr (.inl (weightsAll_mem (d := D i) (List.mem_map.2 ⟨i, List.mem_range.2 hi, rfl⟩) ?_))
          rw [hD]
          simp only [DataW.weights, Tryz.underlying64]
          exact DataW.weights_mem_each (j := 3) (t := 23) rfl rfl n hn))
        rw [reach_eqN] at hl8
        exact ⟨(n0, n1, n2, A, pl, pc, R, b4), by simpa [Addr.add] using q0, by simpa using q1, by simpa using q2, by simpa using q3, by simpa using q4, hl8, hraw⟩
    obtain ⟨z, hz⟩ := choose_lt each
    obtain ⟨b, off, spot⟩ := a
    have hv2 : v = .slice (some ⟨b, off, spot⟩) l c := by simpa using hv
    refine ⟨some ⟨b, off, spot⟩, l, c, ⟨fun i => (z i).1, fun i => (z i).2.1, fun i => (z i).2.2.1, fun i => (z i).2.2.2.1, fun i => (z i).2.2.2.2.1, fun i => (z i).2.2.2.2.2.1, fun i => (z i).2.2.2.2.2.2.2, fun i => (z i).2.2.2.2.2.2.1⟩, b, off, hv2, hlen _ _ _ hv2, fun h1 => ?_, fun i hi => ?_⟩
    · have hspot : spot = none := by
        have := World.cell?_spot (hz 0 (by omega)).c0
        simpa [Addr.add] using this
      subst hspot
      have := (hz 0 (by omega)).c0
      rw [Addr.add_lit] at this
      exact ⟨rfl, World.block_lt_of_cell? W _ this⟩
    · have hspot : spot = none := by
        have := World.cell?_spot (hz 0 (by omega)).c0
        simpa [Addr.add] using this
      subst hspot
      have hh := hz i hi
      rw [Addr.add_lit] at hh
      have c1 := hh.c1
      have c2 := hh.c2
      have c3 := hh.c3
      have c4 := hh.c4
      rw [Addr.add_lit] at c1 c2 c3 c4
      exact ⟨hh.c0, c1, c2, c3, c4, hh.l8, hh.raw⟩

/-- Tasks that came in, as the law takes them. -/
theorem open_targ {H : Type} {enc : TypeId × Value → H} {W : World} {fuel : Nat} {v : Value} {x : DataW H × List MemPlace} (h : DataW.trod enc Tryz.prog W 0 (fun _ => true) true fuel 22 [v] = some x) (hr : ∀ n ∈ x.1.weights Tryz.prog 22, n ≤ reachBytes) :
    ∃ (A : Option Addr) (n cap : Nat) (T : TD) (b off : Nat), v = .slice A n cap ∧ n ≤ Rows.uptoBulk x.1 ∧ TArg W W.heap.size b n A off T := by
  have hlen := fun (A : Option Addr) (n cap : Nat) (hv : v = .slice A n cap) => open_len Tryz.underlying22 h hv
  obtain ⟨A, n, cap, T, rfl, hn, hst⟩ := open_tasks h hr
  rw [reach_eqN] at hn
  by_cases h1 : 1 ≤ n
  · obtain ⟨b, off, rfl, ht⟩ := hst h1
    have hL : ∀ i, i < n → T.L i * 16 ≤ 140737488351232 := fun i hi => by have := (ht i hi).len; rw [reach_eqN] at this; exact this
    refine ⟨_, n, cap, T, b, off, rfl, hlen _ _ _ rfl, ⟨fun _ => ⟨rfl, World.block_lt_of_cell? W _ (ht 0 (by omega)).c0⟩, fun i hi => ?_, fun i hi h1 a ha => ?_, hn, hL⟩⟩
    · have t := ht i hi
      have c1 := t.c1
      have c2 := t.c2
      have c3 := t.c3
      rw [Addr.add_lit] at c1 c2 c3
      refine ⟨t.c0, c1, c2, c3, by have := hL i hi; omega, fun h1 => ?_⟩
      obtain ⟨pb, po, e, hs⟩ := t.steps h1
      exact ⟨pb, po, e, World.block_lt_of_cell? W _ (hs 0 (by omega)).1, hs⟩
    · obtain ⟨pb, po, e, hs⟩ := (ht i hi).steps h1
      rw [e] at ha
      cases ha
      exact World.block_lt_of_cell? W _ (hs 0 (by omega)).1
  · obtain rfl : n = 0 := by omega
    exact ⟨A, 0, cap, T, 0, 0, rfl, Nat.zero_le _, ⟨fun h => by omega, fun i hi => by omega, fun i hi => by omega, by omega, fun i hi => by omega⟩⟩

theorem open_parg {H : Type} {enc : TypeId × Value → H} {W : World} {fuel : Nat} {v : Value} {x : DataW H × List MemPlace} (h : DataW.trod enc Tryz.prog W 0 (fun _ => true) true fuel 23 [v] = some x) (hr : ∀ n ∈ x.1.weights Tryz.prog 23, n ≤ reachBytes) :
    ∃ (A : Option Addr) (n cap : Nat) (Z : Nat → Int), v = .slice A n cap ∧ PArg W W.heap.size n A Z := by
  obtain ⟨A, n, cap, Z, rfl, hn, hz⟩ := open_nums h hr
  rw [reach_eqN] at hn
  exact ⟨A, n, cap, Z, rfl, hn, hz⟩

end Go.Proofs.YtdabcflpcklfiaaGreat

/- Two records are compared. -/
namespace Go.Proofs.YtdabcflpcklfiaaGreat
open Go.RowKit Cad

set_option maxHeartbeats 400000 in
theorem isNaN_any (x : Int) (w : World) : Calls Tryz.prog 120 #[.int .i64 x] w fun e w' => e = .returned (.bool false) ∧ w' = w := by
  have hx : (x != x) = false := by simp
  go_enter Tryz.func120, Tryz.ntmps120
  go_wp2
  go_ret
  exact ⟨rfl, rfl⟩

def cmpI (x y : Int) : Int := if x < y then -1 else if y < x then 1 else 0

set_option maxHeartbeats 400000 in
theorem compare_any (x y : Int) (w : World) : Calls Tryz.prog 91 #[.int .i64 x, .int .i64 y] w fun e w' => e = .returned (.int .i64 (cmpI x y)) ∧ w' = w := by
  by_cases h1 : x < y
  · have b1 : decide (x < y) = true := by simpa using h1
    have HE : Hid (cmpI x y = -1) := by unfold Hid cmpI; rw [if_pos h1]
    go_enter Tryz.func91, Tryz.ntmps91
    go_wp2_with (go_at_call 120; refine (isNaN_any _ _).mono ?_; rintro e w' ⟨rfl, rfl⟩)
    go_ret
    exact ⟨by rw [HE.out]; rfl, rfl⟩
  · have b1 : decide (x < y) = false := by simpa using h1
    by_cases h2 : y < x
    · have b2 : decide (y < x) = true := by simpa using h2
      have HE : Hid (cmpI x y = 1) := by unfold Hid cmpI; rw [if_neg h1, if_pos h2]
      go_enter Tryz.func91, Tryz.ntmps91
      go_wp2_with (go_at_call 120; refine (isNaN_any _ _).mono ?_; rintro e w' ⟨rfl, rfl⟩)
      go_ret
      exact ⟨by rw [HE.out]; rfl, rfl⟩
    · have b2 : decide (y < x) = false := by simpa using h2
      have HE : Hid (cmpI x y = 0) := by unfold Hid cmpI; rw [if_neg h1, if_neg h2]
      go_enter Tryz.func91, Tryz.ntmps91
      go_wp2_with (go_at_call 120; refine (isNaN_any _ _).mono ?_; rintro e w' ⟨rfl, rfl⟩)
      go_ret
      exact ⟨by rw [HE.out]; rfl, rfl⟩

def Tryz.sortL_ren : Go.Shelf.Ren := ⟨fun | 6 => 89 | 15 => 119 | 14 => 118 | 28 => 144 | 29 => 145 | 20 => 136 | 21 => 137 | 22 => 138 | 23 => 139 | 24 => 140 | 25 => 141 | 26 => 142 | 27 => 143 | 46 => 147 | 47 => 148 | 48 => 149 | 49 => 150 | 50 => 151 | 57 => 153 | n => n, fun | 22 => 140 | 24 => 158 | 25 => 166 | 3 => 3 | 39 => 192 | 0 => 0 | 53 => 107 | 55 => 212 | 4 => 4 | 46 => 205 | 45 => 204 | 50 => 72 | 5 => 5 | 9 => 9 | 66 => 213 | 70 => 217 | 76 => 220 | 77 => 221 | n => n, fun | n => n⟩
theorem Tryz.sortL : Go.Proofs.SlLaysF0.n6 Tryz.prog Tryz.sortL_ren := {
  mixed := by kernel_rfl
  f6 := ⟨Tryz.f89.name, by decide, Tryz.func89.trans (congrArg some (by kernel_rfl))⟩
  f14 := ⟨Tryz.f118.name, by decide, Tryz.func118.trans (congrArg some (by kernel_rfl))⟩
  f15 := Tryz.func119.trans (congrArg some (by kernel_rfl))
  f20 := ⟨Tryz.f136.name, by decide, Tryz.func136.trans (congrArg some (by kernel_rfl))⟩
  f21 := ⟨Tryz.f137.name, by decide, Tryz.func137.trans (congrArg some (by kernel_rfl))⟩
  f22 := ⟨Tryz.f138.name, by decide, Tryz.func138.trans (congrArg some (by kernel_rfl))⟩
  f23 := ⟨Tryz.f139.name, by decide, Tryz.func139.trans (congrArg some (by kernel_rfl))⟩
  f24 := ⟨Tryz.f140.name, by decide, Tryz.func140.trans (congrArg some (by kernel_rfl))⟩
  f25 := ⟨Tryz.f141.name, by decide, Tryz.func141.trans (congrArg some (by kernel_rfl))⟩
  f26 := ⟨Tryz.f142.name, by decide, Tryz.func142.trans (congrArg some (by kernel_rfl))⟩
  f27 := ⟨Tryz.f143.name, by decide, Tryz.func143.trans (congrArg some (by kernel_rfl))⟩
  f28 := Tryz.func144.trans (congrArg some (by kernel_rfl))
  f29 := Tryz.func145.trans (congrArg some (by kernel_rfl))
  f46 := ⟨Tryz.f147.name, by decide, Tryz.func147.trans (congrArg some (by kernel_rfl))⟩
  f47 := Tryz.func148.trans (congrArg some (by kernel_rfl))
  f48 := Tryz.func149.trans (congrArg some (by kernel_rfl))
  f49 := ⟨Tryz.f150.name, by decide, Tryz.func150.trans (congrArg some (by kernel_rfl))⟩
  f50 := ⟨Tryz.f151.name, by decide, Tryz.func151.trans (congrArg some (by kernel_rfl))⟩
  f57 := ⟨Tryz.f153.name, by decide, Tryz.func153.trans (congrArg some (by kernel_rfl))⟩
  t0 := Tryz.underlying0
  a0 := Tryz.isAgg0
  z0 := Tryz.sizeOf0
  v0 := Tryz.zeroValue0
  t3 := Tryz.underlying3
  a3 := Tryz.isAgg3
  z3 := Tryz.sizeOf3
  v3 := Tryz.zeroValue3
  t4 := Tryz.underlying4
  a4 := Tryz.isAgg4
  z4 := Tryz.sizeOf4
  v4 := Tryz.zeroValue4
  t5 := Tryz.underlying5
  a5 := Tryz.isAgg5
  z5 := Tryz.sizeOf5
  v5 := Tryz.zeroValue5
  t9 := Tryz.underlying9
  a9 := Tryz.isAgg9
  z9 := Tryz.sizeOf9
  v9 := Tryz.zeroValue9
  t22 := Tryz.underlying140
  a22 := Tryz.isAgg140
  z22 := Tryz.sizeOf140
  v22 := Tryz.zeroValue140
  t25 := Tryz.underlying166
  a25 := Tryz.isAgg166
  z25 := Tryz.sizeOf166
  v25 := Tryz.zeroValue166
  t39 := Tryz.underlying192
  a39 := Tryz.isAgg192
  z39 := Tryz.sizeOf192
  v39 := Tryz.zeroValue192
  t45 := Tryz.underlying204
  a45 := Tryz.isAgg204
  z45 := Tryz.sizeOf204
  v45 := Tryz.zeroValue204
  t46 := Tryz.underlying205
  a46 := Tryz.isAgg205
  z46 := Tryz.sizeOf205
  v46 := Tryz.zeroValue205
  t50 := Tryz.underlying72
  a50 := Tryz.isAgg72
  z50 := Tryz.sizeOf72
  v50 := Tryz.zeroValue72
  t53 := Tryz.underlying107
  a53 := Tryz.isAgg107
  z53 := Tryz.sizeOf107
  v53 := Tryz.zeroValue107
  t55 := Tryz.underlying212
  a55 := Tryz.isAgg212
  z55 := Tryz.sizeOf212
  v55 := Tryz.zeroValue212
  t66 := Tryz.underlying213
  a66 := Tryz.isAgg213
  z66 := Tryz.sizeOf213
  v66 := Tryz.zeroValue213
  t70 := Tryz.underlying217
  a70 := Tryz.isAgg217
  z70 := Tryz.sizeOf217
  v70 := Tryz.zeroValue217
  t76 := Tryz.underlying220
  a76 := Tryz.isAgg220
  z76 := Tryz.sizeOf220
  v76 := Tryz.zeroValue220
  t77 := Tryz.underlying221
  a77 := Tryz.isAgg221
  z77 := Tryz.sizeOf221
  v77 := Tryz.zeroValue221 }

/-- How records are compared. -/
def cfR (x y : Rc) : Int := cmpI x.ord y.ord

theorem ltR (x y : Rc) : ltOf cfR x y = decide (x.ord < y.ord) := by
  unfold ltOf cfR cmpI
  by_cases h1 : x.ord < y.ord
  · simp [h1]
  · by_cases h2 : y.ord < x.ord <;> simp [h1, h2]

theorem swoR : Go.Sort.SWO (ltOf cfR) where
  irrefl x := by rw [ltR]; simp
  trans x y z h1 h2 := by rw [ltR] at *; simp at *; omega
  ntrans x y z h1 h2 := by rw [ltR] at *; simp at *; omega

set_option maxHeartbeats 1000000 in
theorem closure_any (x y : Rc) (W : World) : Calls Tryz.prog 90 #[.agg (recC x).toArray, .agg (recC y).toArray] W fun e w' => e = .returned (.int .i64 (cfR x y)) ∧ ∃ q os', w' = Go.Sort.grow (W.drewN q) os' := by
  have hcon := fun W' => compare_any x.ord y.ord W'
  show Calls Tryz.prog 90 #[.agg #[.int .i64 x.task, .int .i64 x.arr, .int .i64 x.rel, .int .i64 x.done, .int .i64 x.left, .int .i64 x.ord], .agg #[.int .i64 y.task, .int .i64 y.arr, .int .i64 y.rel, .int .i64 y.done, .int .i64 y.left, .int .i64 y.ord]] W _
  unfold cfR
  generalize cmpI x.ord y.ord = r at hcon ⊢
  go_enter Tryz.func90, Tryz.ntmps90
  go_wp2_with (go_at_call 91; refine (hcon _).mono ?_; rintro e w' ⟨rfl, rfl⟩)
  go_ret
  exact ⟨rfl, 0, _, by rw [Go.Sort.alloc_eq_grow, Go.Sort.alloc_eq_grow, Go.Sort.grow_grow]; rfl⟩

@[reducible] def rcInh : Inhabited Rc := ⟨⟨0, 0, 0, 0, 0, 0⟩⟩

theorem recC_one (x : Rc) : ∀ v ∈ recC x, v.oneCell' = true := by
  intro v hv
  simp [recC] at hv
  rcases hv with rfl | rfl | rfl | rfl | rfl | rfl <;> rfl

/-- A list's cells, flat. -/
theorem flat_kept (l : List Rc) : @Go.Sort.flatK Rc rcInh recC 6 l.toArray = (keptC l).toArray := by
  apply Array.ext_getElem?
  intro t
  by_cases ht : t < l.length * 6
  · obtain ⟨r, hr⟩ : ∃ r, l[t / 6]? = some r := ⟨_, List.getElem?_eq_getElem (by omega)⟩
    have h1 := keptC_at hr (t % 6) (by omega)
    rw [show t / 6 * 6 + t % 6 = t from by omega] at h1
    have h2 : (@Go.Sort.flatK Rc rcInh recC 6 l.toArray)[t]? = some (@Go.Sort.flatK Rc rcInh recC 6 l.toArray)[t]! := by
      rw [getElem!_pos _ t (by rw [@Go.Sort.size_flatK Rc rcInh]; exact ht)]
      exact Array.getElem?_eq_getElem _
    rw [h2, @Go.Sort.get_flatK Rc rcInh _ _ _ _ (by exact ht)]
    rw [@getElem!_pos _ _ _ _ _ _ rcInh l.toArray (t / 6) (by simp only [List.size_toArray]; omega)]
    have h3 : l.toArray[t / 6]'(by simp only [List.size_toArray]; omega) = r := by
      have := List.getElem?_eq_some_iff.1 hr
      simpa using this.2
    rw [h3, List.getElem?_toArray, h1]
    have h4 : t % 6 < 6 := by omega
    simp only [recC]
    match t % 6, h4 with
    | 0, _ => rfl
    | 1, _ => rfl
    | 2, _ => rfl
    | 3, _ => rfl
    | 4, _ => rfl
    | 5, _ => rfl
  · rw [Array.getElem?_eq_none (by rw [@Go.Sort.size_flatK Rc rcInh]; exact Nat.le_of_not_lt ht), Array.getElem?_eq_none (by simp only [List.size_toArray]; rw [keptC_len]; omega)]

theorem perm_arr {l : List Rc} {d : Array Rc} (h : @Go.Sort.PermIn Rc rcInh 0 l.toArray.size l.toArray d) : l.Perm d.toList := by
  obtain ⟨h1, _, h3⟩ := h
  have e1 : d.extract 0 l.toArray.size = d := by rw [← h1]; exact Array.extract_size
  have e2 : l.toArray.extract 0 l.toArray.size = l.toArray := Array.extract_size
  rw [e1, e2] at h3
  simpa using h3.symm

theorem sorted_arr {d : Array Rc} (h : @Go.Sort.SortedIn Rc rcInh (ltOf cfR) 0 d.size d) : d.toList.Pairwise (fun a b => a.ord ≤ b.ord) := by
  rw [List.pairwise_iff_getElem]
  intro i j hi hj hij
  have h1 := h i j (Nat.zero_le _) hij (by simpa using hj)
  rw [ltR] at h1
  simp only [Array.length_toList] at hi hj
  rw [@getElem!_pos _ _ _ _ _ _ rcInh d j hj, @getElem!_pos _ _ _ _ _ _ rcInh d i hi] at h1
  simp at h1
  simpa using h1

theorem sw_size (w : World) (g n : Nat) (d : Array Rc) (os : Array Obj) : (@sortWorldK Rc rcInh recC 6 w g 0 n d os).heap.size = w.heap.size + os.size := by
  show ((w.heap.modify g _) ++ os).size = _
  simp

theorem sw_other {w : World} {g n b : Nat} {d : Array Rc} {os : Array Obj} (hb : b < w.heap.size) (hne : b ≠ g) : (@sortWorldK Rc rcInh recC 6 w g 0 n d os).heap[b]? = w.heap[b]? := by
  show ((w.heap.modify g _) ++ os)[b]? = _
  rw [Array.getElem?_append_left (by simpa using hb), Array.getElem?_modify, if_neg (fun e => hne e.symm)]

theorem sw_fr {w : World} {g n : Nat} {d : Array Rc} {os : Array Obj} {len cap : Nat} (_hg : g < w.heap.size) : Fr (fun q => (Value.slice (some ⟨g, 0, none⟩) len cap).ownBlock = some q) w (@sortWorldK Rc rcInh recC 6 w g 0 n d os) :=
  ⟨rfl, rfl, rfl, by rw [sw_size]; omega, fun b hb hn => sw_other hb (fun e => hn (by rw [e]; rfl))⟩

theorem sw_own {w : World} {B g n cap : Nat} {d : Array Rc} {os : Array Obj} {l : List Rc} (h : w.ownsRow B 158 6 (.slice (some ⟨g, 0, none⟩) l.length cap) l.length (keptC l)) (hs : d.toList.length = l.length) :
    (@sortWorldK Rc rcInh recC 6 w g 0 n d os).ownsRow B 158 6 (.slice (some ⟨g, 0, none⟩) l.length cap) l.length (keptC d.toList) := by
  have hgl := (h.lt g rfl).2
  obtain ⟨hlen, ⟨hv, _⟩ | ⟨g', cap', cur, hv, hB, hg, hc1, hc2, hc3, hc4⟩⟩ := h
  · cases hv
  · cases hv
    have hF : @Go.Sort.flatK Rc rcInh recC 6 d = (keptC d.toList).toArray := by
      have := flat_kept d.toList
      simpa using this
    have hkl := keptC_len d.toList
    refine ⟨by rw [hkl, hs], .inr ⟨g, cap, Go.Sort.putCells id 0 (keptC d.toList).toArray cur, rfl, hB, ?_, hc1, hc2, ?_, ?_⟩⟩
    · show ((w.heap.modify g (Go.Sort.onCells (Go.Sort.putCells id 0 (@Go.Sort.flatK Rc rcInh recC 6 d)))) ++ os)[g]? = _
      rw [Array.getElem?_append_left (by simpa using hgl), Array.getElem?_modify, if_pos rfl, hg, hF]
      rfl
    · unfold Go.Sort.putCells
      rw [Array.size_mapIdx]
      exact hc3
    · apply List.ext_getElem?
      intro q
      rw [List.getElem?_take]
      by_cases hq : q < l.length * 6
      · rw [if_pos hq]
        unfold Go.Sort.putCells
        rw [Array.getElem?_toList, Array.getElem?_mapIdx, Array.getElem?_eq_getElem (by rw [hc3]; omega)]
        have hq2 : q < (keptC d.toList).length := by rw [hkl, hs]; exact hq
        simp only [Option.map_some, Nat.zero_le, Nat.zero_add, List.size_toArray, hq2, and_self, if_true, Nat.sub_zero, id]
        rw [getElem!_pos _ q (by simpa using hq2), List.getElem?_eq_getElem hq2]
        simp
      · rw [if_neg hq, List.getElem?_eq_none (by rw [hkl, hs]; omega)]

set_option maxRecDepth 100000 in
theorem sort_recs : SortC := by
  intro v l w B hl h
  have h0 := h
  obtain ⟨hlen, ⟨rfl, hn⟩ | ⟨g, cap, cur, rfl, hB, hg, hc1, hc2, hc3, hc4⟩⟩ := h0
  · have hc := AnyF.slices_SortFunc_none Tryz.sortL none 0 (.func (.func 90) #[] #[]) w
    change Calls Tryz.prog 89 _ _ _ at hc
    refine hc.mono ?_
    rintro e w' ⟨rfl, rfl⟩
    have : l = [] := List.length_eq_zero_iff.1 hn
    subst this
    exact ⟨rfl, [], List.Perm.refl _, List.Pairwise.nil, h, Fr.refl _ _⟩
  · have hgl := (h.lt g rfl).2
    have eg : ∀ args w, (callFunc 90 args).run Tryz.prog w = .ok (.enter 90 args) w := enters_of Tryz.func90 (by kernel_rfl) rfl
    have hH : @Go.Sort.HoldsK Rc rcInh recC 6 w g 0 l.toArray := by
      show Go.Sort.Holds id w g 0 (@Go.Sort.flatK Rc rcInh recC 6 l.toArray)
      rw [flat_kept]
      intro j hj
      have hj' : j < (keptC l).length := by simpa using hj
      refine ⟨?_, h.frozenAt _⟩
      have := h.cells (g := g) rfl j ((keptC l)[j]) (List.getElem?_eq_getElem hj')
      rw [Addr.add_lit] at this
      rw [this, getElem!_pos _ j hj]
      simp
    have hcmp : @CmpLays Rc rcInh Tryz.prog 90 #[] recC 6 cfR g 0 l.toArray.size w := fun _ _ _ _ x y => closure_any x y _
    have hc := @AnyQ.slices_SortFunc Tryz.prog Tryz.sortL_ren Rc rcInh Tryz.sortL 6 Tryz.isAgg158 Tryz.sizeOf158 recC (fun _ => rfl) recC_one cfR swoR 90 #[] g 0 cap l.toArray w eg hcmp hH hgl (by simp; omega)
    change Calls Tryz.prog 89 _ _ _ at hc
    rw [List.size_toArray] at hc
    refine hc.mono ?_
    rintro e w' ⟨rfl, d, n, os, hp, hs, rfl⟩
    have hds : d.size = l.length := by have := hp.1; simpa using this
    have hsz : d.toList.length = l.length := by simpa using hds
    refine ⟨rfl, d.toList, perm_arr (by simpa using hp), sorted_arr (by rw [hds]; exact hs), ?_, ?_⟩
    · rw [hsz]
      exact sw_own h hsz
    · exact sw_fr hgl

end Go.Proofs.YtdabcflpcklfiaaGreat
