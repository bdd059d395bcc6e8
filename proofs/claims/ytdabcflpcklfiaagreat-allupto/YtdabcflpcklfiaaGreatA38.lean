import Derived.Test.YtdabcflpcklfiaaGreatA36
import Derived.Deep.RegionHeldLaw
/- The document's kernel, walked: what is told. -/
namespace Go.Proofs.YtdabcflpcklfiaaGreat
open Go.RowKit Cad

/-- The cells of what is told of a job. -/
def toldC (x : RJ) : List Value := [.int .i64 (x.task : Int), .int .i64 x.arr, .int .i64 x.rel, .int .i64 x.done, .int .i64 (sumL x.dem - x.used)]
def toldL (k : RK) (i : Nat) : List RJ := (k.jobs.take i).filter (toldB k)

theorem told_snoc {k : RK} {i : Nat} {x : RJ} (hx : k.jobs[i]? = some x) : toldL k (i + 1) = if toldB k x = true then toldL k i ++ [x] else toldL k i := by
  have e : k.jobs.take (i + 1) = k.jobs.take i ++ [x] := by rw [List.take_add_one, hx]; rfl
  unfold toldL
  rw [e, List.filter_append]
  by_cases c : toldB k x = true
  · rw [if_pos c]; simp [c]
  · rw [if_neg c]; simp [c]

theorem step_append_ownR {ops : Array Oper} {o : Oper} {a : Act} {w : World} {K : Act → World → Prop} {Q : Exit → Act → World → Prop} {E : Prop}
    (hg : o.guard = none) (s x : Operand) (t : TypeId) (hop : o.op = Op.call { callee := Callee.builtin Builtin.append, args := #[s, x], argTypes := #[t, t] })
    (base : Nat) (e : TypeId) (i : TypeInfo) (z : Value) (size bytes : Nat) (ht : Tryz.prog.underlying t = some (.slice e)) (hi : Tryz.prog.info? e = some i) (hz : i.zero = some z) (hsize : i.size = size) (hby : i.bytes = bytes) (hzs : z.cells.size = size) (hsz : 0 < size)
    (v : Value) (n : Nat) (xs : List Value) (hs : a.eval s = v) (hown : w.ownsRow base e size v n xs)
    (ad : Addr) (m c : Nat) (news : List Value) (hx : a.eval x = .slice (some ad) m c) (hl : news.length = m * size) (hnews : ∀ j u, news[j]? = some u → w.cell? (ad.add j) = some u) (h1 : ∀ u ∈ news, u.oneCell' = true)
    (h63 : n + m ≤ maxLen) (hbytes : (n + m) * bytes ≤ 140737488355328) (hbase : base ≤ w.heap.size)
    (h : ∀ v' w', w'.ownsRow base e size v' (n + m) (xs ++ news) → w.grownBy w' v.ownBlock → K (a.put o.dst v') w') :
    if Region.wanted o (yielded ops a.tmps) = true then Oper.wp Tryz.prog o a w K Q else E := by
  have hw : Region.wanted o (yielded ops a.tmps) = true := by simp [Region.wanted, hg]
  rw [if_pos hw]
  obtain ⟨v', w', hr, h2, h3, _⟩ := run_append_own (P := Tryz.prog) w base t o.type e i z size bytes ht hi hz hsize hby hzs hsz v n xs hown ad m c news hl hnews h1 h63 hbytes hbase
  unfold Oper.wp execOp
  simp only [hop, resolve, invoke, builtin, Sem.run_bind, Sem.run_pure, Result.andThen_ok, List.map_toArray, List.map_cons, List.map_nil, hs, hx, hr]
  exact h v' w' h2 h3

theorem cells5_new (w : World) (a b c d e : Value) (t : Nat) : ∀ (j : Nat) (u : Value), [a, b, c, d, e][j]? = some u → (w.alloc (.cells #[a, b, c, d, e] t)).cell? ((⟨w.heap.size, 0, none⟩ : Addr).add j) = some u := by
  intro j u hu
  rw [Addr.add_lit, Nat.zero_add]
  have := World.cell?_alloc_at (w := w) #[a, b, c, d, e] t w.heap.size j rfl
  rw [this]
  simpa using hu

set_option maxRecDepth 100000 in
set_option maxHeartbeats 4000000 in
theorem rtold_any {w : World} {B kb tb tc pb pc n : Nat} {T : TD} {Z : Nat → Int} {k : RK} {jv : Value} {dv : Nat → Option Addr × Nat} (h : RKAt w B kb tb tc pb pc n T Z k jv dv) (hlen : k.jobs.length ≤ 1000000000000) (hend : 0 ≤ k.ended ∧ k.ended < 1000000000000000000)
    (hd : ∀ (i : Nat) (x : RJ), k.jobs[i]? = some x → (∀ q, q < x.dem.length → 1 ≤ x.dem.getD q 0 ∧ x.dem.getD q 0 ≤ 100) ∧ x.dem.length ≤ 16 ∧ 0 ≤ x.used ∧ x.used ≤ 1600) :
    Calls Tryz.prog 78 #[.pointer (some ⟨kb, 0, none⟩)] w fun e w' => ∃ v, e = .returned v ∧ w'.ownsRow w.heap.size 93 5 v (k.jobs.filter (toldB k)).length ((k.jobs.filter (toldB k)).flatMap toldC) ∧ Below w.heap.size w w' := by
  have HRK : Hid (RKAt w B kb tb tc pb pc n T Z k jv dv) := h
  have HD : Hid (∀ (i : Nat) (x : RJ), k.jobs[i]? = some x → (∀ q, q < x.dem.length → 1 ≤ x.dem.getD q 0 ∧ x.dem.getD q 0 ≤ 100) ∧ x.dem.length ≤ 16 ∧ 0 ≤ x.used ∧ x.used ≤ 1600) := hd
  clear h hd
  go_enter Tryz.func78, Tryz.ntmps78
  go_wp2_with fail
  go_loopw [3, 4] (fun v iv wr => ∃ i : Nat, i ≤ k.jobs.length ∧ iv = .int .i64 i ∧ wr.ownsRow w.heap.size 93 5 v (toldL k i).length ((toldL k i).flatMap toldC) ∧ Below w.heap.size w wr) (fun _ iv _ => k.jobs.length - (intOf iv).toNat)
  case atStart => exact ⟨0, Nat.zero_le _, rfl, World.ownsRow_nil _ _ _ _, Below.refl _ _⟩
  case round =>
    obtain ⟨i, hi, rfl, hown, hbel⟩ := hrel
    have HB : Hid (Below w.heap.size w wr) := hbel
    have hRr := HRK.out.below hbel
    obtain ⟨_, _, y2, _, _, y5⟩ := hRr.rc
    have hkr := hRr.row.lt
    obtain ⟨ao2, cp2, hv2⟩ := own_shapeK hown
    subst hv2
    have HOW : Hid (wr.ownsRow w.heap.size 93 5 (.slice ao2 (toldL k i).length cp2) (toldL k i).length ((toldL k i).flatMap toldC)) := hown
    clear hown hbel
    by_cases hil : i < k.jobs.length
    · obtain ⟨x, hx⟩ : ∃ x, k.jobs[i]? = some x := ⟨_, List.getElem?_eq_getElem hil⟩
      obtain ⟨g, cap, rfl, _, hgl, hcap, hc, _⟩ := hRr.job hx
      have c0 : wr.cell? ⟨g, i * 7, none⟩ = some (.int .i64 (x.task : Int)) := hc 0 _ rfl
      have c1 : wr.cell? ⟨g, i * 7 + 1, none⟩ = some (.int .i64 x.arr) := hc 1 _ rfl
      have c2 : wr.cell? ⟨g, i * 7 + 2, none⟩ = some (.int .i64 x.rel) := hc 2 _ rfl
      have c3 : wr.cell? ⟨g, i * 7 + 3, none⟩ = some (.slice (dv i).1 x.dem.length (dv i).2) := hc 3 _ rfl
      have c4 : wr.cell? ⟨g, i * 7 + 4, none⟩ = some (.int .i64 x.used) := hc 4 _ rfl
      have c5 : wr.cell? ⟨g, i * 7 + 5, none⟩ = some (.int .i64 x.done) := hc 5 _ rfl
      have c6 : wr.cell? ⟨g, i * 7 + 6, none⟩ = some (.int .i64 x.ended) := hc 6 _ rfl
      have HSN := told_snoc hx
      have HSN' : Hid _ := HSN
      clear hc HSN
      by_cases hdn : 0 ≤ x.done ∧ x.ended ≤ k.ended - 40
      · have b1 : decide (0 ≤ x.done) = true := decide_eq_true hdn.1
        have b2 : decide (x.ended ≤ k.ended - 40) = true := decide_eq_true hdn.2
        have HT : Hid (toldB k x = false) := by unfold Hid toldB; rw [decide_eq_true hdn]; rfl
        have HS2 : Hid (toldL k (i + 1) = toldL k i) := by
          have := HSN'.out
          rw [if_neg (by rw [HT.out]; decide)] at this
          exact this
        clear hdn hRr hx
        go_wp2_with fail
        go_quiet (fail)
        go_wp2
        go_roundw
        case rel => exact ⟨i + 1, by omega, by go_num, by rw [HS2.out]; exact own_drewN (HOW.out.alloc _) _, below_drewM (HB.out.trans ((below_alloc1 _ _).mono HB.out.size)) _⟩
        case measure => simp [intOf]; omega
      · have HT : Hid (toldB k x = true) := by unfold Hid toldB; rw [decide_eq_false hdn]; rfl
        have HS2 : Hid (toldL k (i + 1) = toldL k i ++ [x]) := by
          have := HSN'.out
          rw [if_pos HT.out] at this
          exact this
        obtain ⟨hdr, hdl, hu0, hu1⟩ := HD.out i x hx
        obtain ⟨W1, hW1⟩ : ∃ W1, W1 = (wr.alloc (.cells #[.int .i64 (x.task : Int), .int .i64 x.arr, .int .i64 x.rel, .slice (dv i).1 x.dem.length (dv i).2, .int .i64 x.used, .int .i64 x.done, .int .i64 x.ended] 148)) := ⟨_, rfl⟩
        have hbx := row7 wr (.int .i64 (x.task : Int)) (.int .i64 x.arr) (.int .i64 x.rel) (.slice (dv i).1 x.dem.length (dv i).2) (.int .i64 x.used) (.int .i64 x.done) (.int .i64 x.ended) 148
        rw [← hW1] at hbx
        have hb1 : Below wr.heap.size wr W1 := by rw [hW1]; exact below_alloc1 _ _
        have HOW1 : Hid (W1.ownsRow w.heap.size 93 5 (.slice ao2 (toldL k i).length cp2) (toldL k i).length ((toldL k i).flatMap toldC)) := by rw [hW1]; exact HOW.out.alloc _
        have HBW : Hid (Below w.heap.size w W1) := HB.out.trans (hb1.mono HB.out.size)
        have x0 : W1.cell? ⟨wr.heap.size, 0, none⟩ = some (.int .i64 (x.task : Int)) := hbx.cell (by omega)
        have x1 : W1.cell? ⟨wr.heap.size, 1, none⟩ = some (.int .i64 x.arr) := hbx.cell (by omega)
        have x2 : W1.cell? ⟨wr.heap.size, 2, none⟩ = some (.int .i64 x.rel) := hbx.cell (by omega)
        have x3 : W1.cell? ⟨wr.heap.size, 3, none⟩ = some (.slice (dv i).1 x.dem.length (dv i).2) := hbx.cell (by omega)
        have x4 : W1.cell? ⟨wr.heap.size, 4, none⟩ = some (.int .i64 x.used) := hbx.cell (by omega)
        have x5 : W1.cell? ⟨wr.heap.size, 5, none⟩ = some (.int .i64 x.done) := hbx.cell (by omega)
        have x6 : W1.cell? ⟨wr.heap.size, 6, none⟩ = some (.int .i64 x.ended) := hbx.cell (by omega)
        have hbl := hbx.lt
        have hRb := hRr.below hb1
        have hk5 : W1.cell? ⟨kb, 5, none⟩ = some (.int .i64 k.ended) := hRb.rc.2.2.2.2.2
        have hkb := hRb.row.lt
        have hdm := hRb.dems i x hx
        have HTOT : Hid (∀ w1, Below W1.heap.size W1 w1 → Calls Tryz.prog 105 #[.slice (dv i).1 x.dem.length (dv i).2] w1 fun e w' => e = .returned (.int .i64 (sumL x.dem)) ∧ w' = w1) := fun w1 hb => total_any x.dem (hdm.below hb) hdr hdl
        have hsum := sumL_range hdr x.dem.length (Nat.le_refl _)
        rw [List.take_length] at hsum
        have HAPP : Hid (∀ wx w9, Below W1.heap.size W1 wx → wx.grownBy w9 (Value.slice ao2 (toldL k i).length cp2).ownBlock → (w9.cell? ⟨wr.heap.size, 0, none⟩ = some (.int .i64 (x.task : Int)) ∧ w9.cell? ⟨wr.heap.size, 1, none⟩ = some (.int .i64 x.arr) ∧ w9.cell? ⟨wr.heap.size, 2, none⟩ = some (.int .i64 x.rel) ∧ w9.cell? ⟨wr.heap.size, 3, none⟩ = some (.slice (dv i).1 x.dem.length (dv i).2) ∧ w9.cell? ⟨wr.heap.size, 4, none⟩ = some (.int .i64 x.used) ∧ w9.cell? ⟨wr.heap.size, 5, none⟩ = some (.int .i64 x.done))) := by
          intro wx w9 hbx' hg9
          have hne : some wr.heap.size ≠ (Value.slice ao2 (toldL k i).length cp2).ownBlock := by
            intro e
            obtain ⟨_, _, hr⟩ := own_rowE HOW1.out e.symm
            exact row_ne hbx hr (by decide) rfl
          have hblk := (hg9.block wr.heap.size (Nat.lt_of_lt_of_le hbl hbx'.size) hne).trans (hbx'.block _ hbl)
          exact ⟨(cell_same hblk).trans x0, (cell_same hblk).trans x1, (cell_same hblk).trans x2, (cell_same hblk).trans x3, (cell_same hblk).trans x4, (cell_same hblk).trans x5⟩
        have HEND : Hid (∀ v9 w9 wx, Below W1.heap.size W1 wx → w9.ownsRow w.heap.size 93 5 v9 ((toldL k i).length + 1) ((toldL k i).flatMap toldC ++ [.int .i64 (x.task : Int), .int .i64 x.arr, .int .i64 x.rel, .int .i64 x.done, .int .i64 (IntKind.i64.wrap (sumL x.dem - x.used))]) → wx.grownBy w9 (Value.slice ao2 (toldL k i).length cp2).ownBlock → w9.ownsRow w.heap.size 93 5 v9 (toldL k (i + 1)).length ((toldL k (i + 1)).flatMap toldC) ∧ Below w.heap.size w w9) := by
          intro v9 w9 wx hbx' hs9 hg9
          have hwr : IntKind.i64.wrap (sumL x.dem - x.used) = sumL x.dem - x.used := by simp [IntKind.wrap, IntKind.bits, IntKind.signed]; omega
          rw [hwr] at hs9
          have hbx2 := HBW.out.trans (hbx'.mono HBW.out.size)
          refine ⟨?_, hbx2.grown hg9 hbx2.size (fun q hq => (HOW1.out.lt q hq).1)⟩
          rw [HS2.out, List.length_append, List.length_singleton, List.flatMap_append]
          have e : [x].flatMap toldC = toldC x := by simp
          rw [e]
          exact hs9
        have HW1 : Hid (W1 = (wr.alloc (.cells #[.int .i64 (x.task : Int), .int .i64 x.arr, .int .i64 x.rel, .slice (dv i).1 x.dem.length (dv i).2, .int .i64 x.used, .int .i64 x.done, .int .i64 x.ended] 148))) := hW1
        have htl : (toldL k i).length ≤ 1000000000000 := by
          unfold toldL
          have := List.length_filter_le (toldB k) (k.jobs.take i)
          rw [List.length_take] at this
          omega
        obtain ⟨i9, hi9, hz90, hz91, hz92⟩ := info_parts Tryz.info93
        have HBS : Hid (w.heap.size ≤ W1.heap.size) := HBW.out.size
        have HDN : Hid (¬ (0 ≤ x.done ∧ x.ended ≤ k.ended - 40)) := hdn
        clear hdn hRr hx hW1 hbx hb1 hRb hdm hdr
        by_cases h1 : x.done < 0
        · have b1 : decide (0 ≤ x.done) = false := decide_eq_false (by omega)
          clear h1
          go_wp2_with fail
          rw [← HW1.out]
          generalize hbxe : wr.heap.size = bx at *
          clear hbxe HW1 c0 c1 c2 c3 c4 c5 c6
          generalize hsd : sumL x.dem = sd at *
          clear hsd
          go_quiet (fail)
          go_wp2_with fail
          go_region_held_law (fun w' => w'.cell? ⟨bx, 0, none⟩ = some (.int .i64 (x.task : Int)) ∧ w'.cell? ⟨bx, 1, none⟩ = some (.int .i64 x.arr) ∧ w'.cell? ⟨bx, 2, none⟩ = some (.int .i64 x.rel) ∧ w'.cell? ⟨bx, 3, none⟩ = some (.slice (dv i).1 x.dem.length (dv i).2) ∧ w'.cell? ⟨bx, 4, none⟩ = some (.int .i64 x.used) ∧ w'.cell? ⟨bx, 5, none⟩ = some (.int .i64 x.done)) (first | go_keep | exact hcells) (first | (refine step_append_ownR rfl (.tmp 35) (.tmp 51) 90 rfl w.heap.size 93 i9 _ 5 40 Tryz.underlying90 hi9 hz90 hz91 hz92 rfl (by decide) (.slice ao2 (toldL k i).length cp2) (toldL k i).length ((toldL k i).flatMap toldC) (by simp [Act.eval]) ((own_drewN HOW1.out _).alloc _) ⟨W1.heap.size, 0, none⟩ 1 1 _ (by simp [Act.eval]) rfl (cells5_new _ _ _ _ _ _ _) (by intro u hu; simp at hu; rcases hu with rfl | rfl | rfl | rfl | rfl <;> rfl) (by unfold maxLen; omega) (by omega) (by simp; have := HBS.out; omega) ?_; intro v9 w9 hs9 hg9; have hcells := HAPP.out _ w9 ((below_drewM (Below.refl _ W1) _).alloc (Nat.le_refl _) _) hg9) | (go_at_call 105; refine (HTOT.out _ (below_drewM (Below.refl _ _) _)).mono ?_; rintro e w5 ⟨rfl, rfl⟩))
          all_goals
            have HF := HEND.out _ _ _ ((below_drewM (Below.refl _ W1) _).alloc (Nat.le_refl _) _) hs9 hg9
            have HF2 : Hid _ := HF
            clear HF hs9 hg9 hcells
            go_wp2
            go_roundw
            case rel => exact ⟨i + 1, by omega, by go_num, HF2.out.1, HF2.out.2⟩
            case measure => simp [intOf]; omega
        · have b1 : decide (0 ≤ x.done) = true := decide_eq_true (by omega)
          have b2 : decide (x.ended ≤ k.ended - 40) = false := decide_eq_false (fun c => HDN.out ⟨by omega, c⟩)
          clear h1
          go_wp2_with fail
          rw [← HW1.out]
          generalize hbxe : wr.heap.size = bx at *
          clear hbxe HW1 c0 c1 c2 c3 c4 c5 c6
          generalize hsd : sumL x.dem = sd at *
          clear hsd
          go_quiet (fail)
          go_wp2_with fail
          go_region_held_law (fun w' => w'.cell? ⟨bx, 0, none⟩ = some (.int .i64 (x.task : Int)) ∧ w'.cell? ⟨bx, 1, none⟩ = some (.int .i64 x.arr) ∧ w'.cell? ⟨bx, 2, none⟩ = some (.int .i64 x.rel) ∧ w'.cell? ⟨bx, 3, none⟩ = some (.slice (dv i).1 x.dem.length (dv i).2) ∧ w'.cell? ⟨bx, 4, none⟩ = some (.int .i64 x.used) ∧ w'.cell? ⟨bx, 5, none⟩ = some (.int .i64 x.done)) (first | go_keep | exact hcells) (first | (refine step_append_ownR rfl (.tmp 35) (.tmp 51) 90 rfl w.heap.size 93 i9 _ 5 40 Tryz.underlying90 hi9 hz90 hz91 hz92 rfl (by decide) (.slice ao2 (toldL k i).length cp2) (toldL k i).length ((toldL k i).flatMap toldC) (by simp [Act.eval]) ((own_drewN HOW1.out _).alloc _) ⟨W1.heap.size, 0, none⟩ 1 1 _ (by simp [Act.eval]) rfl (cells5_new _ _ _ _ _ _ _) (by intro u hu; simp at hu; rcases hu with rfl | rfl | rfl | rfl | rfl <;> rfl) (by unfold maxLen; omega) (by omega) (by simp; have := HBS.out; omega) ?_; intro v9 w9 hs9 hg9; have hcells := HAPP.out _ w9 ((below_drewM (Below.refl _ W1) _).alloc (Nat.le_refl _) _) hg9) | (go_at_call 105; refine (HTOT.out _ (below_drewM (Below.refl _ _) _)).mono ?_; rintro e w5 ⟨rfl, rfl⟩))
          all_goals
            have HF := HEND.out _ _ _ ((below_drewM (Below.refl _ W1) _).alloc (Nat.le_refl _) _) hs9 hg9
            have HF2 : Hid _ := HF
            clear HF hs9 hg9 hcells
            go_wp2
            go_roundw
            case rel => exact ⟨i + 1, by omega, by go_num, HF2.out.1, HF2.out.2⟩
            case measure => simp [intOf]; omega
    · obtain rfl : i = k.jobs.length := by omega
      have e1 : toldL k k.jobs.length = k.jobs.filter (toldB k) := by unfold toldL; rw [List.take_length]
      obtain ⟨ao, cap, rfl, hcap⟩ := hRr.shape
      rw [e1] at HOW
      clear hRr
      go_wp2
      go_ret
      exact ⟨_, rfl, by rw [← e1]; rw [e1]; exact HOW.out, HB.out⟩

end Go.Proofs.YtdabcflpcklfiaaGreat
