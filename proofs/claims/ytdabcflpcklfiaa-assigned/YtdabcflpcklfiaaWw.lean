import Derived.Test.YtdabcflpcklfiaaK27
namespace Go.Proofs.Ytdabcflpcklfiaa
open Go.RowKit

/-- append onto a row of the call's own: where the new value lies. -/
theorem wpList_append_own2 {P : Program} (w : World) {ops : Array Oper} {rest : List Oper} {o : Oper} {a : Act} {Q : Exit → Act → World → Prop} (hgd : o.guard = none) (s x : Operand) (t : TypeId)
    (ho : o.op = .call { callee := .builtin .append, args := #[s, x], argTypes := #[t, t] })
    (base : Nat) (e : TypeId) (i : TypeInfo) (z : Value) (size bytes : Nat) (ht : P.underlying t = some (.slice e)) (hi : P.info? e = some i) (hz : i.zero = some z)
    (hsize : i.size = size) (hby : i.bytes = bytes) (hzs : z.cells.size = size) (hsz : 0 < size)
    (v : Value) (n : Nat) (xs : List Value) (hs : a.eval s = v) (hown : w.ownsRow base e size v n xs)
    (ad : Addr) (m c : Nat) (news : List Value) (hx : a.eval x = .slice (some ad) m c) (hl : news.length = m * size) (hnews : ∀ j u, news[j]? = some u → w.cell? (ad.add j) = some u) (h1 : ∀ u ∈ news, u.oneCell' = true)
    (h63 : n + m ≤ maxLen) (hbytes : (n + m) * bytes ≤ 140737488355328) (hbase : base ≤ w.heap.size)
    (h : ∀ v' w', w'.ownsRow base e size v' (n + m) (xs ++ news) → w.grownBy w' v.ownBlock → (v'.ownBlock = v.ownBlock ∨ v'.ownBlock = some w.heap.size) → wpList P ops Q rest (a.put o.dst v') w') : wpList P ops Q (o :: rest) a w := by
  refine wpList_plain hgd fun K hK => ?_
  obtain ⟨v', w', hr, h2, h3, h4⟩ := run_append_own (P := P) w base t o.type e i z size bytes ht hi hz hsize hby hzs hsz v n xs hown ad m c news hl hnews h1 h63 hbytes hbase
  have hfresh : v'.ownBlock = v.ownBlock ∨ v'.ownBlock = some w.heap.size := by
    subst hsize
    subst hby
    have hsmall : n + m ≤ 9223372036854775807 := by simp only [maxLen] at h63; omega
    rcases hown.2 with ⟨rfl, rfl⟩ | ⟨g, cap, cur, rfl, hbg, hg, hnc, hcm, hcs, htake⟩
    · by_cases hm : m = 0
      · exact .inl (by rw [h4.2 ⟨rfl, hm⟩])
      · have hr2 := run_append_nil (P := P) w t o.type e i z ht hi hz ad m c news hl hnews (by omega) (by omega) (by have hb := hbytes; simp only [Nat.zero_add] at hb; omega)
        rw [hr2] at hr
        cases hr
        exact .inr rfl
    · by_cases hroom : n + m ≤ cap
      · have hfit : n * i.size + news.length ≤ cur.size := by rw [hl, hcs, ← Nat.add_mul]; exact Nat.mul_le_mul_right _ hroom
        have hr2 := run_append_room (P := P) w t o.type e i ht hi g n cap cur hg ad m c news hl hnews h1 hroom hfit
        rw [hr2] at hr
        cases hr
        exact .inl rfl
      · have holds : ∀ j u, xs[j]? = some u → w.cell? ((⟨g, 0, none⟩ : Addr).add j) = some u := hown.cells (g := g) rfl
        have hr2 := run_append_grow (P := P) w t o.type e i z ht hi hz ⟨g, 0, none⟩ n cap xs hown.1 holds ad m c news hl hnews (by omega) (by omega) (growslice_fits (by omega) hbytes)
        rw [hr2] at hr
        cases hr
        exact .inr rfl
  unfold Oper.wp execOp
  simp only [ho, resolve, invoke, builtin, Sem.run_bind, Sem.run_pure, Result.andThen_ok, List.map_toArray, List.map_cons, List.map_nil, hs, hx, hr]
  exact hK _ _ (h v' w' h2 h3 hfresh)

theorem own_shape2 {w : World} {base e size : Nat} {v : Value} {n : Nat} {xs : List Value} (h : w.ownsRow base e size v n xs) : ∃ ao cap, v = .slice ao n cap := by
  rcases h.2 with ⟨hv, h0⟩ | ⟨g, cap, _, hv, _⟩
  · exact ⟨none, 0, by rw [hv, h0]⟩
  · exact ⟨some ⟨g, 0, none⟩, cap, hv⟩

/-- The law's record while marked lists are kept. -/
def kf (vi vm : Value) (F : Nat → Value) (q : Nat) : Value := if q = 3 then vi else if q = 4 then vm else F q

structure KI (B0 Wb c : Nat) (vi vm l : Value) (F : Nat → Value) (ji jm : Nat) (w wr : World) : Prop where
  below : Below B0 w wr
  wrow : wr.rowIs Wb 31 9 (kf vi vm F)
  io : ∃ xs, wr.ownsRow B0 26 1 vi ji xs
  mo : ∃ xs, wr.ownsRow B0 3 1 vm jm xs
  lo : ∃ xs, wr.ownsRow B0 3 1 l c xs
  ne : vm.ownBlock = none ∨ vm.ownBlock ≠ l.ownBlock
  size : B0 ≤ wr.heap.size

theorem ownsRow_row {w : World} {base e : Nat} {v : Value} {n : Nat} {xs : List Value} (h : w.ownsRow base e 1 v n xs) : v.ownBlock = none ∨ ∃ g m f, v.ownBlock = some g ∧ w.rowIs g e m f := by
  rcases h.2 with ⟨rfl, _⟩ | ⟨g, cap, cur, rfl, _, hg, _, _, hcs, _⟩
  · exact .inl rfl
  · exact .inr ⟨g, cap * 1, fun q => cur[q]!, rfl, cur, hg, hcs, fun i hi => by rw [← hcs] at hi; simp [hi]⟩

theorem own_ne_type {w : World} {b1 b2 e1 e2 : Nat} {v1 v2 : Value} {n1 n2 : Nat} {x1 x2 : List Value} (h1 : w.ownsRow b1 e1 1 v1 n1 x1) (h2 : w.ownsRow b2 e2 1 v2 n2 x2) (hne : e1 ≠ e2) : v1.ownBlock = none ∨ v1.ownBlock ≠ v2.ownBlock := by
  rcases ownsRow_row h1 with h | ⟨g, m, f, hg, hr⟩
  · exact .inl h
  · exact .inr (by rw [hg]; exact own_type h2 hr hne)

section
variable {B0 Wb c ji jm : Nat} {vi vm l : Value} {F : Nat → Value} {w wr w5 : World} {v5 : Value} {xs5 : List Value}

theorem KI.alloc (h : KI B0 Wb c vi vm l F ji jm w wr) (o : Obj) : KI B0 Wb c vi vm l F ji jm w (wr.alloc o) :=
  ⟨h.below.alloc h.size o, h.wrow.alloc o, let ⟨xs, hx⟩ := h.io; ⟨xs, hx.alloc o⟩, let ⟨xs, hx⟩ := h.mo; ⟨xs, hx.alloc o⟩, let ⟨xs, hx⟩ := h.lo; ⟨xs, hx.alloc o⟩, h.ne, by have := h.size; simp; omega⟩

theorem KI.row3 (h : KI B0 Wb c vi vm l F ji jm w wr) (hg5 : wr.grownBy w5 vi.ownBlock) : w5.rowIs Wb 31 9 (kf vi vm F) := by
  obtain ⟨xs, hx⟩ := h.io
  exact h.wrow.of_block (hg5.block _ h.wrow.lt (own_type hx h.wrow (by decide)))

theorem KI.row4 (h : KI B0 Wb c vi vm l F ji jm w wr) (hg5 : wr.grownBy w5 vm.ownBlock) : w5.rowIs Wb 31 9 (kf vi vm F) := by
  obtain ⟨xs, hx⟩ := h.mo
  exact h.wrow.of_block (hg5.block _ h.wrow.lt (own_type hx h.wrow (by decide)))

theorem KI.push3 (hWb : B0 ≤ Wb) (h : KI B0 Wb c vi vm l F ji jm w wr) (hown : w5.ownsRow B0 26 1 v5 (ji + 1) xs5) (hg5 : wr.grownBy w5 vi.ownBlock) : KI B0 Wb c v5 vm l F (ji + 1) jm w (w5.setCell ⟨Wb, 3, none⟩ v5) := by
  have hw5 := h.row3 hg5
  obtain ⟨xi, hi⟩ := h.io
  obtain ⟨xm, hm⟩ := h.mo
  obtain ⟨xl, hl⟩ := h.lo
  have hm5 := own_setOther (i := 3) (hm.kept hg5 (own_ne_type hm hi (by decide))) hw5 (by decide) v5
  have hl5 := own_setOther (i := 3) (hl.kept hg5 (own_ne_type hl hi (by decide))) hw5 (by decide) v5
  refine ⟨(h.below.grown hg5 h.size (fun q hq => (hi.lt q hq).1)).setCell hWb _, (hw5.set 3 v5).congr (fun q _ => ?_), ⟨_, own_setOther (i := 3) hown hw5 (by decide) v5⟩, ⟨_, hm5⟩, ⟨_, hl5⟩, h.ne, by rw [Deep.nblk_setCell]; exact Nat.le_trans h.size hg5.size⟩
  unfold kf
  by_cases e : q = 3
  · simp [e]
  · simp [e]

theorem KI.push4 (hWb : B0 ≤ Wb) (h : KI B0 Wb c vi vm l F ji jm w wr) (hown : w5.ownsRow B0 3 1 v5 (jm + 1) xs5) (hg5 : wr.grownBy w5 vm.ownBlock) (hf : v5.ownBlock = vm.ownBlock ∨ v5.ownBlock = some wr.heap.size) : KI B0 Wb c vi v5 l F ji (jm + 1) w (w5.setCell ⟨Wb, 4, none⟩ v5) := by
  have hw5 := h.row4 hg5
  obtain ⟨xi, hi⟩ := h.io
  obtain ⟨xm, hm⟩ := h.mo
  obtain ⟨xl, hl⟩ := h.lo
  have hne : l.ownBlock = none ∨ l.ownBlock ≠ vm.ownBlock := by
    cases hlb : l.ownBlock with
    | none => exact .inl rfl
    | some g =>
      rcases h.ne with g1 | g1
      · exact .inr (by rw [g1]; simp)
      · exact .inr (by rw [← hlb]; exact fun e => g1 e.symm)
  have hi5 := own_setOther (i := 4) (hi.kept hg5 (own_ne_type hi hm (by decide))) hw5 (by decide) v5
  have hl5 := own_setOther (i := 4) (hl.kept hg5 hne) hw5 (by decide) v5
  refine ⟨(h.below.grown hg5 h.size (fun q hq => (hm.lt q hq).1)).setCell hWb _, (hw5.set 4 v5).congr (fun q _ => ?_), ⟨_, hi5⟩, ⟨_, own_setOther (i := 4) hown hw5 (by decide) v5⟩, ⟨_, hl5⟩, ?_, by rw [Deep.nblk_setCell]; exact Nat.le_trans h.size hg5.size⟩
  · unfold kf
    by_cases e : q = 4
    · simp [e]
    · simp [e]
  · rcases hf with g | g
    · rw [g]; exact h.ne
    · refine .inr (fun e => ?_)
      rw [g] at e
      have := (hl.lt _ e.symm).2
      omega

theorem KI.pushL (h : KI B0 Wb c vi vm l F ji jm w wr) (hown : w5.ownsRow B0 3 1 v5 (c + 1) xs5) (hg5 : wr.grownBy w5 l.ownBlock) (hf : v5.ownBlock = l.ownBlock ∨ v5.ownBlock = some wr.heap.size) : KI B0 Wb (c + 1) vi vm v5 F ji jm w w5 := by
  obtain ⟨xi, hi⟩ := h.io
  obtain ⟨xm, hm⟩ := h.mo
  obtain ⟨xl, hl⟩ := h.lo
  refine ⟨h.below.grown hg5 h.size (fun q hq => (hl.lt q hq).1), h.wrow.of_block (hg5.block _ h.wrow.lt (own_type hl h.wrow (by decide))), ⟨_, hi.kept hg5 (own_ne_type hi hl (by decide))⟩, ⟨_, hm.kept hg5 h.ne⟩, ⟨_, hown⟩, ?_, Nat.le_trans h.size hg5.size⟩
  rcases hf with g | g
  · rw [g]; exact h.ne
  · cases hmb : vm.ownBlock with
    | none => exact .inl rfl
    | some q =>
      refine .inr (fun e => ?_)
      rw [g] at e
      have := (hm.lt q hmb).2
      simp at e
      omega
end

theorem Try.info26 : (Try.prog.info? 26).map (fun i => (i.zero, i.size, i.bytes)) = some (some (.slice none 0 0), 1, 24) := by kernel_rfl

/-- A list to be kept: nil, or a row of the call's own. -/
def KeepL (w : World) (B0 n : Nat) (l : Value) : Prop := (l = .slice none 0 0 ∧ n = 0) ∨ ∃ g f, l = .slice (some ⟨g, 0, none⟩) n n ∧ B0 ≤ g ∧ w.rowIs g 3 n f

theorem keepL_own {w : World} {B0 n : Nat} {l : Value} (hn : n ≤ maxLen) (h : KeepL w B0 n l) : ∃ xs, w.ownsRow B0 3 1 l n xs := by
  rcases h with ⟨rfl, rfl⟩ | ⟨g, f, rfl, hg, c, hc, hcs, hcf⟩
  · exact ⟨[], World.ownsRow_nil _ _ _ _⟩
  · refine ⟨c.toList.take (n * 1), ⟨by simp [hcs], .inr ⟨g, n, c, rfl, hg, hc, Nat.le_refl _, hn, by omega, rfl⟩⟩⟩

set_option maxRecDepth 100000 in
set_option maxHeartbeats 3000000 in
theorem keep_any (Wb B0 n : Nat) (k : Int) (l : Value) (F : Nat → Value) (w : World) (h0 : -1000000 ≤ k) (h1 : k ≤ 1000000) (hn : n ≤ 1000) (hWb : B0 ≤ Wb) (hB : B0 ≤ w.heap.size)
    (hF3 : F 3 = .slice none 0 0) (hF4 : F 4 = .slice none 0 0) (hF8 : F 8 = .int .i64 k) (hW : w.rowIs Wb 31 9 F) (hl : KeepL w B0 n l) :
    Calls Try.prog 39 #[.pointer (some ⟨Wb, 0, none⟩), l] w fun e w' => e = .returned (.tuple #[]) ∧ Below B0 w w' := by
  obtain ⟨i0, hi0, hz0, hz1, hz2⟩ := info_parts Try.info3
  obtain ⟨i6, hi6, hz60, hz61, hz62⟩ := info_parts Try.info26
  have HL : Hid (KeepL w B0 n l) := hl
  have HW : Hid (w.rowIs Wb 31 9 F) := hW
  have HF : Hid (F 3 = .slice none 0 0 ∧ F 4 = .slice none 0 0 ∧ F 8 = .int .i64 k) := ⟨hF3, hF4, hF8⟩
  obtain ⟨ao, lc, rfl⟩ : ∃ ao lc, l = .slice ao n lc := by
    rcases hl with ⟨rfl, rfl⟩ | ⟨g, f, rfl, _⟩
    · exact ⟨none, 0, rfl⟩
    · exact ⟨_, _, rfl⟩
  clear hl hW hF3 hF4 hF8
  go_enter Try.func39, Try.ntmps39
  go_wp2_with fail
  refine (mark_any Wb k F _ h0 h1 HF.out.2.2 HW.out).mono ?_
  rintro e w1 ⟨rfl, hw1⟩
  have HW1 : Hid (w1.rowIs Wb 31 9 (fun q => if q = 8 then .int .i64 (k - 1) else F q)) := by unfold Hid; rw [hw1]; exact HW.out.set 8 _
  have HB1 : Hid (Below B0 w w1) := by unfold Hid; rw [hw1]; exact (Below.refl _ _).setCell hWb _
  have HL1 : Hid (KeepL w1 B0 n (.slice ao n lc)) := by
    unfold Hid
    rw [hw1]
    rcases HL.out with h | ⟨g, f, e, hg, hr⟩
    · exact .inl h
    · exact .inr ⟨g, f, e, hg, hr.setOther (rows_ne hr HW.out (by decide)) _⟩
  clear hw1
  go_wp2_with fail
  go_loopw [5] (fun iv wr => ∃ i : Nat, i ≤ n ∧ iv = .int .i64 i ∧ wr.rowIs Wb 31 9 (fun q => if q = 8 then .int .i64 (k - 1) else F q) ∧ KeepL wr B0 n (.slice ao n lc) ∧ Below B0 w wr) (fun iv _ => n - (intOf iv).toNat)
  case atStart => exact ⟨0, Nat.zero_le _, rfl, HW1.out, HL1.out, HB1.out⟩
  case round =>
    obtain ⟨i, hi, rfl, hw, hkl, hbel⟩ := hrel
    by_cases hlt : i < n
    · obtain ⟨g, f, hv, hg, hr⟩ : ∃ g f, Value.slice ao n lc = .slice (some ⟨g, 0, none⟩) n n ∧ B0 ≤ g ∧ wr.rowIs g 3 n f := by
        rcases hkl with ⟨_, h0⟩ | h
        · omega
        · exact h
      cases hv
      have x : wr.cell? ⟨g, i, none⟩ = some (f i) := hr.cell hlt
      have z : ∀ q, wr.frozen? ⟨g, q, none⟩ = false := fun q => hr.frozen q
      have FW : Hid ((wr.setCell ⟨g, i, none⟩ (.int .i64 (k - 1 - 100))).rowIs Wb 31 9 (fun q => if q = 8 then .int .i64 (k - 1) else F q)) := hw.setOther (rows_ne hw hr (by decide)) _
      have FL : Hid (KeepL (wr.setCell ⟨g, i, none⟩ (.int .i64 (k - 1 - 100))) B0 n (.slice (some ⟨g, 0, none⟩) n n)) := .inr ⟨g, _, rfl, hg, hr.set i _⟩
      have FB : Hid (Below B0 w (wr.setCell ⟨g, i, none⟩ (.int .i64 (k - 1 - 100)))) := hbel.setCell hg _
      clear hw hkl hbel hr
      go_wp2
      go_roundw
      case rel => exact ⟨i + 1, by omega, by go_num, FW.out, FL.out, FB.out⟩
      case measure => simp [intOf]; omega
    · have HKI : Hid (KI B0 Wb n (.slice none 0 0) (.slice none 0 0) (.slice ao n lc) (fun q => if q = 8 then .int .i64 (k - 1) else F q) 0 0 w wr) :=
        ⟨hbel, hw.congr (fun q _ => by
          unfold kf
          by_cases e3 : q = 3
          · subst e3; simp [HF.out.1]
          · by_cases e4 : q = 4
            · subst e4; simp [HF.out.2.1]
            · simp [e3, e4]), ⟨_, World.ownsRow_nil _ _ _ _⟩, ⟨_, World.ownsRow_nil _ _ _ _⟩, keepL_own (by unfold maxLen; omega) hkl, .inl rfl, by have := hbel.size; omega⟩
      clear hw hkl hbel
      generalize (fun q => if q = 8 then Value.int .i64 (k - 1) else F q) = Fk at *
      go_wp2_with fail
      go_loopw [1, 6] (fun lv jv wr => ∃ (j : Nat) (vi vm : Value), j ≤ 4 ∧ jv = .int .i64 j ∧ KI B0 Wb (n + j) vi vm lv Fk j j w wr) (fun _ jv _ => 4 - (intOf jv).toNat)
      case atStart => exact ⟨0, _, _, by omega, rfl, HKI.out⟩
      case round =>
        obtain ⟨j, vi, vm, hj, rfl, hki⟩ := hrel
        by_cases hj4 : j < 4
        · obtain ⟨xl, hxl⟩ := hki.lo
          obtain ⟨lo, lcap, rfl⟩ := own_shape2 hxl
          obtain ⟨xi, hxi⟩ := hki.io
          have HK : Hid (KI B0 Wb (n + j) vi vm (.slice lo (n + j) lcap) Fk j j w wr) := hki
          have a3 : wr.cell? ⟨Wb, 3, none⟩ = some vi := (hki.wrow.cell (by omega)).trans rfl
          have hwl := hki.wrow.lt
          have hsz := hki.size
          clear hki hxl
          go_wp2_with (at_builtin; refine wpList_append_own2 _ rfl _ _ 27 rfl B0 26 i6 (.slice none 0 0) 1 24 Try.underlying27 hi6 hz60 hz61 hz62 rfl (by decide) _ _ _ rfl (hxi.alloc _) ⟨wr.heap.size, 0, none⟩ 1 1 [.slice lo (n + j) lcap] rfl rfl ?c1 ?c2 ?c3 ?c4 ?c5 ?_)
          case c1 => exact cell_one_at _ _ rfl _ _
          case c2 => exact one_oneCell rfl
          case c3 => unfold maxLen; omega
          case c4 => omega
          case c5 => simp; omega
          intro v5 w5 hown5 hg5 _
          have hki5 := KI.push3 hWb (KI.alloc HK.out _) hown5 hg5
          have hrow5 := KI.row3 (KI.alloc HK.out _) hg5
          obtain ⟨g5, cap5, hv5⟩ := own_slice hown5
          rw [hv5] at hki5 ⊢
          have b3 : w5.cell? ⟨Wb, 3, none⟩ = some vi := (hrow5.cell (by omega)).trans rfl
          have b4 : w5.cell? ⟨Wb, 4, none⟩ = some vm := (hrow5.cell (by omega)).trans rfl
          have bz : ∀ q, w5.frozen? ⟨Wb, q, none⟩ = false := fun q => hrow5.frozen q
          have hwl5 := hrow5.lt
          obtain ⟨xm, hxm⟩ := hki5.mo
          have hsz5 := hki5.size
          have HK5 : Hid (KI B0 Wb (n + j) (.slice (some ⟨g5, 0, none⟩) (j + 1) cap5) vm (.slice lo (n + j) lcap) Fk (j + 1) j w (w5.setCell ⟨Wb, 3, none⟩ (.slice (some ⟨g5, 0, none⟩) (j + 1) cap5))) := hki5
          clear hki5 hrow5 hown5 hg5 hxi a3 hv5
          go_wp2_with (at_builtin; refine wpList_append_own2 _ rfl _ _ 26 rfl B0 3 i0 (.int .i64 0) 1 8 Try.underlying26 hi0 hz0 hz1 hz2 rfl (by decide) _ _ _ rfl (hxm.alloc _) ⟨w5.heap.size, 0, none⟩ 1 1 [.int .i64 (k - 1 - 100)] rfl rfl ?d1 ?d2 ?d3 ?d4 ?d5 ?_)
          case d1 => exact cell_one_at _ _ (by rw [Deep.nblk_setCell]) _ _
          case d2 => exact one_oneCell rfl
          case d3 => unfold maxLen; omega
          case d4 => omega
          case d5 => rw [Deep.nblk_alloc]; omega
          intro v6 w6 hown6 hg6 hf6
          have hki6 := KI.push4 hWb (KI.alloc HK5.out _) hown6 hg6 (by rw [Deep.nblk_alloc, Deep.nblk_setCell]; exact hf6)
          have hrow6 := KI.row4 (KI.alloc HK5.out _) hg6
          obtain ⟨g6, cap6, hv6⟩ := own_slice hown6
          rw [hv6] at hki6 ⊢
          have e4 : w6.cell? ⟨Wb, 4, none⟩ = some vm := (hrow6.cell (by omega)).trans rfl
          have ez : ∀ q, w6.frozen? ⟨Wb, q, none⟩ = false := fun q => hrow6.frozen q
          have hwl6 := hrow6.lt
          obtain ⟨xl2, hxl2⟩ := hki6.lo
          have hsz6 := hki6.size
          have HK6 : Hid (KI B0 Wb (n + j) (.slice (some ⟨g5, 0, none⟩) (j + 1) cap5) (.slice (some ⟨g6, 0, none⟩) (j + 1) cap6) (.slice lo (n + j) lcap) Fk (j + 1) (j + 1) w (w6.setCell ⟨Wb, 4, none⟩ (.slice (some ⟨g6, 0, none⟩) (j + 1) cap6))) := hki6
          clear hki6 hrow6 hown6 hg6 hf6 hxm b3 b4 bz hv6
          go_wp2_with (at_builtin; refine wpList_append_own2 _ rfl _ _ 26 rfl B0 3 i0 (.int .i64 0) 1 8 Try.underlying26 hi0 hz0 hz1 hz2 rfl (by decide) _ _ _ rfl (hxl2.alloc _) ⟨w6.heap.size, 0, none⟩ 1 1 [.int .i64 (k - 1 - 100)] rfl rfl ?f1 ?f2 ?f3 ?f4 ?f5 ?_)
          case f1 => exact cell_one_at _ _ (by rw [Deep.nblk_setCell]) _ _
          case f2 => exact one_oneCell rfl
          case f3 => unfold maxLen; omega
          case f4 => omega
          case f5 => rw [Deep.nblk_alloc]; omega
          intro v7 w7 hown7 hg7 hf7
          have HK7 : Hid (KI B0 Wb (n + j + 1) (.slice (some ⟨g5, 0, none⟩) (j + 1) cap5) (.slice (some ⟨g6, 0, none⟩) (j + 1) cap6) v7 Fk (j + 1) (j + 1) w w7) := KI.pushL (KI.alloc HK6.out _) hown7 hg7 (by rw [Deep.nblk_alloc, Deep.nblk_setCell]; exact hf7)
          clear hown7 hg7 hf7 hxl2 e4 ez
          go_wp2
          go_roundw
          case rel => exact ⟨j + 1, _, _, by omega, by go_num, HK7.out⟩
          case measure => simp [intOf]; omega
        · have HBL : Hid (Below B0 w wr) := hki.below
          clear hki
          have hj44 : j = 4 := by omega
          subst hj44
          go_wp2
          go_end0
          exact ⟨rfl, HBL.out⟩
end Go.Proofs.Ytdabcflpcklfiaa
