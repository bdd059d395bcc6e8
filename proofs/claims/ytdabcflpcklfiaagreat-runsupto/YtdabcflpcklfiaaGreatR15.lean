import Derived.Test.YtdabcflpcklfiaaGreatR14
namespace Go.Proofs.YtdabcflpcklfiaaGreat
open Go.RowKit

theorem zf_last {n : Nat} {T : TD} {S : Nat → Nat} (c : Nat) : lf T S n (n * 4 + c) = zf c := by
  unfold lf zf
  rw [if_neg (by omega)]
  have : (n * 4 + c) % 4 = c % 4 := by omega
  rw [this]

/-- The lent programs when those below k have been turned over, and j steps of the next one. -/
def Gk (T : TD) (k j0 : Nat) (j p : Nat) : Value := if j < k then neg7 p else if j = k then (if p < j0 * 2 then neg7 p else sf (T.K j) (T.N j) (T.L j) p) else sf (T.K j) (T.N j) (T.L j) p

theorem lf_at {T : TD} {S : Nat → Nat} {n k : Nat} (hk : k < n) :
    lf T S n (k * 4) = .int .i64 (T.P k) ∧ lf T S n (k * 4 + 1) = .int .i64 (T.D k) ∧ lf T S n (k * 4 + 2) = .int .i64 (T.J k) ∧ lf T S n (k * 4 + 3) = .slice (some ⟨S k, 0, none⟩) (T.L k) (T.L k + 1) := by
  have e0 : k * 4 / 4 = k := by omega
  have e1 : (k * 4 + 1) / 4 = k := by omega
  have e2 : (k * 4 + 2) / 4 = k := by omega
  have e3 : (k * 4 + 3) / 4 = k := by omega
  have m0 : k * 4 % 4 = 0 := by omega
  have m1 : (k * 4 + 1) % 4 = 1 := by omega
  have m2 : (k * 4 + 2) % 4 = 2 := by omega
  have m3 : (k * 4 + 3) % 4 = 3 := by omega
  refine ⟨?_, ?_, ?_, ?_⟩
  · unfold lf lfld; rw [if_pos (by omega), e0, m0]; rfl
  · unfold lf lfld; rw [if_pos (by omega), e1, m1]; rfl
  · unfold lf lfld; rw [if_pos (by omega), e2, m2]; rfl
  · unfold lf lfld; rw [if_pos (by omega), e3, m3]; rfl

theorem Gk_at {T : TD} {k j p : Nat} (h : j * 2 ≤ p) : Gk T k j k p = sf (T.K k) (T.N k) (T.L k) p := by
  unfold Gk
  rw [if_neg (by omega), if_pos rfl, if_neg (by omega)]

theorem sf_at {K N : Nat → Int} {l j : Nat} (h : j < l) : sf K N l (j * 2) = .int .i64 (K j) ∧ sf K N l (j * 2 + 1) = .int .i64 (N j) := by
  have e0 : j * 2 / 2 = j := by omega
  have e1 : (j * 2 + 1) / 2 = j := by omega
  have m0 : j * 2 % 2 = 0 := by omega
  have m1 : (j * 2 + 1) % 2 = 1 := by omega
  refine ⟨?_, ?_⟩
  · unfold sf pf; rw [if_pos (by omega), e0, m0]; rfl
  · unfold sf pf; rw [if_pos (by omega), e1, m1]; rfl

theorem sf_end {K N : Nat → Int} {l p : Nat} (h : l * 2 ≤ p) : sf K N l p = .int .i64 0 := by
  unfold sf; rw [if_neg (by omega)]

theorem RI_step {B0 n m Lb Wb ba b2 ns nt : Nat} {T : TD} {S : Nat → Nat} {v vs vt : Value} {F LF : Nat → Value} {xs ys : List Value} {w wr : World} {k j : Nat} (hf : RetFix B0 n Lb Wb b2 ns nt T S v) (hk : k < n) (hj : j ≤ T.L k) (hB : B0 ≤ wr.heap.size)
    (h : RI B0 n m Lb Wb ba b2 ns nt T S v vs vt F LF (Gk T k j) xs ys w wr) (o : Obj) (nq : Nat) :
    RI B0 n m Lb Wb ba b2 ns nt T S v vs vt F LF (Gk T k (j + 1)) xs ys w ((((wr.alloc o).setCell ⟨S k, j * 2, none⟩ (.int .i64 (-7))).setCell ⟨S k, j * 2 + 1, none⟩ (.int .i64 (-7))).drewN nq) := by
  refine (((((h.alloc hB o).setS hf hk (j * 2) _).setS hf hk (j * 2 + 1) _).drewN nq).congr (fun _ _ => rfl) (fun i hi q hq => ?_))
  unfold Gk neg7
  by_cases e : i = k
  · subst e
    simp only [if_true, Nat.lt_irrefl, if_false]
    by_cases q1 : q = j * 2 + 1
    · rw [if_pos q1, if_pos (by omega)]
    · rw [if_neg q1]
      by_cases q0 : q = j * 2
      · rw [if_pos q0, if_pos (by omega)]
      · rw [if_neg q0]
        by_cases hq : q < j * 2
        · rw [if_pos hq, if_pos (by omega)]
        · rw [if_neg hq, if_neg (by omega)]
  · simp only [e, if_false]

theorem Gk_next {T : TD} {k i q : Nat} (hq : q < (T.L i + 1) * 2) : Gk T k (T.L k + 1) i q = Gk T (k + 1) 0 i q := by
  unfold Gk
  by_cases h1 : i < k
  · rw [if_pos h1, if_pos (by omega)]
  · rw [if_neg h1]
    by_cases h2 : i = k
    · subst h2
      rw [if_pos rfl, if_pos hq, if_pos (by omega)]
    · rw [if_neg h2, if_neg (by omega)]
      by_cases h3 : i = k + 1
      · rw [if_pos h3, if_neg (by omega)]
      · rw [if_neg h3]

theorem box_step {wr : World} {o : Obj} {nq bx sk a1 a2 : Nat} {u1 u2 val : Value} (h : wr.cell? ⟨bx, 3, none⟩ = some val) (hlt : bx < wr.heap.size) (hne : sk < bx) :
    ((((wr.alloc o).drewN nq).setCell ⟨sk, a1, none⟩ u1).setCell ⟨sk, a2, none⟩ u2).cell? ⟨bx, 3, none⟩ = some val := by
  rw [← h]
  apply World.cell?_of_block
  show _ = wr.heap[bx]?
  have hn : bx ≠ sk := by omega
  rw [Deep.blk_setCell_other _ _ _ _ (by exact hn), Deep.blk_setCell_other _ _ _ _ (by exact hn)]
  exact Deep.blk_alloc_lt _ _ _ hlt

theorem size_step {wr : World} {o : Obj} {nq sk a1 a2 z : Nat} {u1 u2 : Value} (h : z ≤ wr.heap.size) :
    z ≤ ((((wr.alloc o).drewN nq).setCell ⟨sk, a1, none⟩ u1).setCell ⟨sk, a2, none⟩ u2).heap.size := by
  rw [Deep.nblk_setCell, Deep.nblk_setCell]
  show z ≤ (wr.alloc o).heap.size
  rw [Deep.nblk_alloc]
  omega

def nz (q : Nat) : Value := if q % 4 = 0 then .int .i64 (-7) else zf q
/-- The lent tasks when those below i have been turned over. -/
def Lk (T : TD) (S : Nat → Nat) (n i q : Nat) : Value := if q < i * 4 then nz q else lf T S n q

theorem RI_stepL {B0 n m Lb Wb ba b2 ns nt : Nat} {T : TD} {S : Nat → Nat} {v vs vt : Value} {F : Nat → Value} {G : Nat → Nat → Value} {xs ys : List Value} {w wr : World} {i : Nat} (hf : RetFix B0 n Lb Wb b2 ns nt T S v)
    (h : RI B0 n m Lb Wb ba b2 ns nt T S v vs vt F (Lk T S n i) G xs ys w wr) :
    RI B0 n m Lb Wb ba b2 ns nt T S v vs vt F (Lk T S n (i + 1)) G xs ys w ((((wr.setCell ⟨Lb, i * 4, none⟩ (.int .i64 (-7))).setCell ⟨Lb, i * 4 + 1, none⟩ (.int .i64 0)).setCell ⟨Lb, i * 4 + 2, none⟩ (.int .i64 0)).setCell ⟨Lb, i * 4 + 3, none⟩ (.slice none 0 0)) := by
  refine ((((h.setL hf (i * 4) _).setL hf (i * 4 + 1) _).setL hf (i * 4 + 2) _).setL hf (i * 4 + 3) _).congr (fun q hq => ?_) (fun _ _ _ _ => rfl)
  unfold Lk nz zf
  by_cases q3 : q = i * 4 + 3
  · rw [if_pos q3, if_pos (by omega), if_neg (by omega), if_pos (by omega)]
  · rw [if_neg q3]
    by_cases q2 : q = i * 4 + 2
    · rw [if_pos q2, if_pos (by omega), if_neg (by omega), if_neg (by omega)]
    · rw [if_neg q2]
      by_cases q1 : q = i * 4 + 1
      · rw [if_pos q1, if_pos (by omega), if_neg (by omega), if_neg (by omega)]
      · rw [if_neg q1]
        by_cases q0 : q = i * 4
        · rw [if_pos q0, if_pos (by omega), if_pos (by omega)]
        · rw [if_neg q0]
          by_cases hq : q < i * 4
          · rw [if_pos hq, if_pos (show q < (i + 1) * 4 by omega)]
          · rw [if_neg hq, if_neg (by omega)]

set_option maxRecDepth 100000 in
set_option maxHeartbeats 4000000 in
theorem returned_some (b off n cap B0 Lb Wb ba b2 ns nt ga acap : Nat) (T : TD) (S : Nat → Nat) (vs vt : Value) (F : Nat → Value) (xs ys : List Value) (w : World) (h1 : 1 ≤ n) (hb : b < B0) (hB0 : B0 ≤ w.heap.size) (hT : TasksAt w b off n T)
    (hTB : ∀ i, i < n → 1 ≤ T.L i → ∀ a, T.A i = some a → a.block < B0)
    (hf : RetFix B0 n Lb Wb b2 ns nt T S (.slice (some ⟨ga, 0, none⟩) n acap)) (hi : RI B0 n 0 Lb Wb ba b2 ns nt T S (.slice (some ⟨ga, 0, none⟩) n acap) vs vt F (lf T S n) (Gk T 0 0) xs ys w w) :
    Calls Tryz.prog 20 #[.pointer (some ⟨Wb, 0, none⟩), .slice (some ⟨Lb, 0, none⟩) (n + 1) (n + 1), .slice (some ⟨ga, 0, none⟩) n acap, .slice (some ⟨b, off, none⟩) n cap] w fun e w' => e = .returned (.bool true) ∧
      ∃ vs' vt', RI B0 n n Lb Wb ba b2 ns (nt + 1) T S (.slice (some ⟨ga, 0, none⟩) n acap) vs' vt' F nz (fun _ => neg7) xs (ys ++ [.slice (some ⟨Lb, 0, none⟩) (n + 1) (n + 1)]) w w' := by
  obtain ⟨i4, hi4, hz40, hz41, hz42⟩ := info_parts Tryz.info75
  obtain ⟨i2, hi2, hz20, hz21, hz22⟩ := info_parts Tryz.info22
  have HT : Hid (TasksAt w b off n T) := hT
  have HI : Hid _ := hi
  have HF : Hid _ := hf
  have hn8 := hf.hn8
  have l0 : w.cell? ⟨Lb, n * 4, none⟩ = some (.int .i64 0) := (hi.lrow.cell (by omega)).trans (by rw [show n * 4 = n * 4 + 0 by rfl, zf_last]; rfl)
  have l3 : w.cell? ⟨Lb, n * 4 + 3, none⟩ = some (.slice none 0 0) := (hi.lrow.cell (by omega)).trans (by rw [zf_last]; rfl)
  have HTB : Hid (∀ i, i < n → 1 ≤ T.L i → ∀ a, T.A i = some a → a.block < B0) := hTB
  clear hT hi hf hTB
  go_enter Tryz.func20, Tryz.ntmps20
  go_wp2_with fail
  clear l0 l3
  go_loopw [10] (fun i wr => ∃ (k : Nat) (vs1 : Value), k ≤ n ∧ i = .int .i64 k ∧ RI B0 n k Lb Wb ba b2 ns nt T S (.slice (some ⟨ga, 0, none⟩) n acap) vs1 vt F (lf T S n) (Gk T k 0) xs ys w wr)
    (fun i _ => n - (intOf i).toNat)
  case atStart => exact ⟨0, vs, Nat.zero_le _, rfl, HI.out⟩
  case round =>
    obtain ⟨wo, hwo⟩ : ∃ x, x = wr := ⟨_, rfl⟩
    subst hwo
    obtain ⟨k, vs1, hk, rfl, hri⟩ := hrel
    have hsz : B0 ≤ wo.heap.size := Nat.le_trans hB0 hri.below.size
    have hbwo : b < wo.heap.size := by omega
    by_cases hlt : k < n
    · obtain ⟨c0, c1, c2, c3, hp⟩ := HT.out k hlt
      have d0 : wo.cell? ⟨b, off + k * 4, none⟩ = some (.int .i64 (T.P k)) := (hri.below.cell (by exact hb)).trans c0
      have d1 : wo.cell? ⟨b, off + k * 4 + 1, none⟩ = some (.int .i64 (T.D k)) := (hri.below.cell (by exact hb)).trans c1
      have d2 : wo.cell? ⟨b, off + k * 4 + 2, none⟩ = some (.int .i64 (T.J k)) := (hri.below.cell (by exact hb)).trans c2
      have d3 : wo.cell? ⟨b, off + k * 4 + 3, none⟩ = some (.slice (T.A k) (T.L k) (T.C k)) := (hri.below.cell (by exact hb)).trans c3
      have HP : Hid _ := hp
      clear c0 c1 c2 c3 hp
      obtain ⟨f0, f1, f2, f3⟩ := lf_at (T := T) (S := S) hlt
      have l0 : wo.cell? ⟨Lb, k * 4, none⟩ = some (.int .i64 (T.P k)) := (hri.lrow.cell (by omega)).trans (by rw [f0])
      have l1 : wo.cell? ⟨Lb, k * 4 + 1, none⟩ = some (.int .i64 (T.D k)) := (hri.lrow.cell (by omega)).trans (by rw [f1])
      have l2 : wo.cell? ⟨Lb, k * 4 + 2, none⟩ = some (.int .i64 (T.J k)) := (hri.lrow.cell (by omega)).trans (by rw [f2])
      have l3 : wo.cell? ⟨Lb, k * 4 + 3, none⟩ = some (.slice (some ⟨S k, 0, none⟩) (T.L k) (T.L k + 1)) := (hri.lrow.cell (by omega)).trans (by rw [f3])
      clear f0 f1 f2 f3
      have hLbl : Lb < wo.heap.size := hri.lrow.lt
      have hgal : ga < wo.heap.size := (hri.own.lt ga rfl).2
      have ha : wo.cell? ⟨ga, k, none⟩ = some (.slice (some ⟨S k, 0, none⟩) (T.L k + 1) (T.L k + 1)) := by
        have := hri.own.cells (g := ga) rfl k (.slice (some ⟨S k, 0, none⟩) (T.L k + 1) (T.L k + 1)) (by simp [allOf, hlt])
        rwa [Addr.add_lit, Nat.zero_add] at this
      have hLk := HF.out.hL k hlt
      go_wp2_with fail
      clear d0 d1 d2 d3 l0 l1 l2 l3 ha
      have hSl : S k < wo.heap.size := (hri.rows k hlt).lt
      have HR : Hid _ := hri
      clear hri
      go_loopw [15] (fun jv wi => ∃ j : Nat, j ≤ T.L k + 1 ∧ jv = .int .i64 j ∧ RI B0 n k Lb Wb ba b2 ns nt T S (.slice (some ⟨ga, 0, none⟩) n acap) vs1 vt F (lf T S n) (Gk T k j) xs ys w wi ∧
          wi.cell? ⟨wo.heap.size + 1, 3, none⟩ = some (.slice (T.A k) (T.L k) (T.C k)) ∧ wo.heap.size + 2 ≤ wi.heap.size)
        (fun jv _ => T.L k + 1 - (intOf jv).toNat)
      case atStart => exact ⟨0, by omega, rfl, (RI.alloc HR.out hsz _).alloc (by simp; omega) _, by simp, by simp⟩
      case round =>
        obtain ⟨j, hj, rfl, hrj, hbox, hzi⟩ := hrel
        by_cases hjl : j ≤ T.L k
        · have s0 : wr.cell? ⟨S k, j * 2, none⟩ = some (sf (T.K k) (T.N k) (T.L k) (j * 2)) := ((hrj.rows k hlt).cell (by omega)).trans (by rw [Gk_at (by omega)])
          have s1 : wr.cell? ⟨S k, j * 2 + 1, none⟩ = some (sf (T.K k) (T.N k) (T.L k) (j * 2 + 1)) := ((hrj.rows k hlt).cell (by omega)).trans (by rw [Gk_at (by omega)])
          have sz : ∀ q, wr.frozen? ⟨S k, q, none⟩ = false := fun q => (hrj.rows k hlt).frozen q
          have hSi : S k < wr.heap.size := by omega
          have hbi : B0 ≤ wr.heap.size := by omega
          have HRJ : Hid _ := hrj
          have HBX : Hid _ := hbox
          by_cases hjlt : j < T.L k
          · obtain ⟨pb, poff, hA, hpb, hst⟩ := HP.out.2 (by omega)
            have hpb0 : pb < B0 := HTB.out k hlt (by omega) _ hA
            have p0 : wr.cell? ⟨pb, poff + j * 2, none⟩ = some (.int .i64 (T.K k j)) := (hrj.below.cell (by exact hpb0)).trans (hst j hjlt).1
            have p1 : wr.cell? ⟨pb, poff + j * 2 + 1, none⟩ = some (.int .i64 (T.N k j)) := (hrj.below.cell (by exact hpb0)).trans (hst j hjlt).2
            have hbox2 := hbox
            rw [hA] at hbox2
            have HBX2 : Hid (T.A k = some ⟨pb, poff, none⟩) := hA
            clear hA hst hbox hrj
            rw [(sf_at hjlt).1] at s0
            rw [(sf_at hjlt).2] at s1
            have hpbi : pb < wr.heap.size := by omega
            have hbxi : wo.heap.size + 1 < wr.heap.size := by omega
            go_wp2_with fail
            go_quiet (fail)
            go_wp2
            go_roundw
            case rel =>
              exact ⟨j + 1, by omega, by go_num, RI_step HF.out hlt hjl hbi HRJ.out _ _, box_step HBX.out hbxi (by omega), size_step hzi⟩
            case measure => simp [intOf]; omega
          · obtain rfl : j = T.L k := by omega
            rw [sf_end (by omega)] at s0 s1
            clear hbox hrj
            have hbxi : wo.heap.size + 1 < wr.heap.size := by omega
            go_wp2_with fail
            go_quiet (fail)
            go_wp2
            go_roundw
            case rel =>
              exact ⟨T.L k + 1, by omega, by go_num, RI_step HF.out hlt (Nat.le_refl _) hbi HRJ.out _ _, box_step HBX.out hbxi (by omega), size_step hzi⟩
            case measure => first | (simp [intOf]; done) | (simp [intOf]; omega)
        · obtain rfl : j = T.L k + 1 := by omega
          have hbi : B0 ≤ wr.heap.size := by omega
          have hw6 : wr.cell? ⟨Wb, 6, none⟩ = some vs1 := (hrj.wrow.cell (by omega)).trans rfl
          have hwl : Wb < wr.heap.size := hrj.wrow.lt
          have hown1 := hrj.sown
          have hfn := HF.out.hn
          have hb2 := hrj.b2le
          have HRJ : Hid _ := hrj
          have hals : (xs ++ allOf T S k).length = ns + k := by simpa using hown1.1
          clear hrj hbox
          go_wp2_with (at_builtin; refine wpList_append_own _ rfl _ _ 29 rfl b2 75 i4 (.slice none 0 0) 1 24 Tryz.underlying29 hi4 hz40 hz41 hz42 rfl (by decide) _ _ _ rfl (hown1.alloc _) ⟨wr.heap.size, 0, none⟩ 1 1 [.slice (some ⟨S k, 0, none⟩) (T.L k + 1) (T.L k + 1)] rfl rfl ?c1 ?c2 ?c3 ?c4 ?c5 ?_)
          case c1 => exact cell_one_at _ _ rfl _ _
          case c2 => exact one_oneCell rfl
          case c3 => unfold maxLen; omega
          case c4 => omega
          case c5 => simp; omega
          · intro v5 w5 hown5 hg5 _
            have hri5 := (RI.alloc HRJ.out hbi _).pushS HF.out hown5 hg5
            obtain ⟨g5, cap5, hv5⟩ := own_slice hown5
            rw [hv5] at hri5 ⊢
            have hw5 := (RI.alloc HRJ.out hbi (.cells #[.slice (some ⟨S k, 0, none⟩) (T.L k + 1) (T.L k + 1)] 75)).wrowS hg5
            have hw56 : w5.cell? ⟨Wb, 6, none⟩ = some vs1 := (hw5.cell (by omega)).trans rfl
            have hwz : ∀ q, w5.frozen? ⟨Wb, q, none⟩ = false := fun q => hw5.frozen q
            have HRI5 : Hid _ := hri5
            clear hri5 hw5 hown5 hg5 hown1 hw6 hv5
            go_wp2
            go_roundw
            case rel => exact ⟨k + 1, _, by omega, by go_num, (HRI5.out).congr (fun _ _ => rfl) (fun i _ q hq => Gk_next hq)⟩
            case measure => simp [intOf]; omega
    · obtain rfl : k = n := by omega
      have HR : Hid _ := hri
      clear hri
      go_wp2_with fail
      go_loopw [17] (fun iv wi => ∃ i : Nat, i ≤ k + 1 ∧ iv = .int .i64 i ∧ RI B0 k k Lb Wb ba b2 ns nt T S (.slice (some ⟨ga, 0, none⟩) k acap) vs1 vt F (Lk T S k i) (Gk T k 0) xs ys w wi)
        (fun iv _ => k + 1 - (intOf iv).toNat)
      case atStart => exact ⟨0, by omega, rfl, (HR.out).congr (fun q _ => by unfold Lk; rw [if_neg (by omega)]) (fun _ _ _ _ => rfl)⟩
      case round =>
        obtain ⟨i, hi, rfl, hrj⟩ := hrel
        by_cases hil : i ≤ k
        · have l0 : wr.cell? ⟨Lb, i * 4, none⟩ = some (Lk T S k i (i * 4)) := hrj.lrow.cell (by omega)
          have l1 : wr.cell? ⟨Lb, i * 4 + 1, none⟩ = some (Lk T S k i (i * 4 + 1)) := hrj.lrow.cell (by omega)
          have l2 : wr.cell? ⟨Lb, i * 4 + 2, none⟩ = some (Lk T S k i (i * 4 + 2)) := hrj.lrow.cell (by omega)
          have l3 : wr.cell? ⟨Lb, i * 4 + 3, none⟩ = some (Lk T S k i (i * 4 + 3)) := hrj.lrow.cell (by omega)
          have lz : ∀ q, wr.frozen? ⟨Lb, q, none⟩ = false := fun q => hrj.lrow.frozen q
          have HRJ : Hid _ := hrj
          clear hrj
          go_wp2
          go_roundw
          case rel => exact ⟨i + 1, by omega, by go_num, RI_stepL HF.out HRJ.out⟩
          case measure => first | (simp [intOf]; done) | (simp [intOf]; omega)
        · obtain rfl : i = k + 1 := by omega
          have hw7 : wr.cell? ⟨Wb, 7, none⟩ = some vt := (hrj.wrow.cell (by omega)).trans rfl
          have hwl : Wb < wr.heap.size := hrj.wrow.lt
          have hown1 := hrj.town
          have hft := HF.out.ht
          have hb2 := hrj.b2le
          have hbi : B0 ≤ wr.heap.size := Nat.le_trans HF.out.bb hb2
          have HRJ : Hid _ := hrj
          clear hrj
          go_wp2_with (at_builtin; refine wpList_append_own _ rfl _ _ 30 rfl b2 22 i2 (.slice none 0 0) 1 24 Tryz.underlying30 hi2 hz20 hz21 hz22 rfl (by decide) _ _ _ rfl (hown1.alloc _) ⟨wr.heap.size, 0, none⟩ 1 1 [.slice (some ⟨Lb, 0, none⟩) (k + 1) (k + 1)] rfl rfl ?c1 ?c2 ?c3 ?c4 ?c5 ?_)
          case c1 => exact cell_one_at _ _ rfl _ _
          case c2 => exact one_oneCell rfl
          case c3 => unfold maxLen; omega
          case c4 => omega
          case c5 => simp; omega
          · intro v5 w5 hown5 hg5 _
            have hri5 := (RI.alloc HRJ.out hbi _).pushT HF.out hown5 hg5
            obtain ⟨g5, cap5, hv5⟩ := own_slice hown5
            rw [hv5] at hri5 ⊢
            have hw5 := (RI.alloc HRJ.out hbi (.cells #[.slice (some ⟨Lb, 0, none⟩) (k + 1) (k + 1)] 22)).wrowT hg5
            have hw57 : w5.cell? ⟨Wb, 7, none⟩ = some vt := (hw5.cell (by omega)).trans rfl
            have hwz : ∀ q, w5.frozen? ⟨Wb, q, none⟩ = false := fun q => hw5.frozen q
            have HRI5 : Hid _ := hri5
            clear hri5 hw5 hown5 hg5 hown1 hw7 hv5
            go_wp2
            go_ret
            exact ⟨rfl, _, _, (HRI5.out).congr (fun q hq => by unfold Lk; rw [if_pos hq]) (fun i hi q _ => by unfold Gk; rw [if_pos hi])⟩
end Go.Proofs.YtdabcflpcklfiaaGreat
