import Derived.Test.YtdabcflpcklfiaaGreatA36
import Derived.Test.YtdabcflpcklfiaaGreatA30
/- The document's kernel, walked: who holds a resource. -/
namespace Go.Proofs.YtdabcflpcklfiaaGreat
open Go.RowKit Cad

/-- What an open job of the document's kernel holds: that of its job in the program's. -/
theorem RR.holds {S : Sy} {m : Mc} {k : RK} (hs : SyOk S) (ho : Ok S m) (hl : LkInv S m) (h : RR S m k) {i : Nat} {x : RJ} (hx : k.jobs[i]? = some x) (hd : x.done < 0) : ∃ (j : Jb) (l : List Int), x.task < S.n ∧ j ∈ m.q x.task ∧ j.ord = (i : Int) ∧ JR S x.task j x ∧ stTo (S.K x.task) (S.N x.task) j.p = some l ∧ l.length ≤ 16 ∧ 0 ≤ x.used ∧ x.used ≤ 10000 ∧ ∀ r : Nat, r < 8 → ((r : Int) ∈ l → m.hold r = (x.task : Int)) := by
  obtain ⟨ht, j, hj, ho1⟩ := h.op i x hx hd
  obtain ⟨i', x', e1, e2, e3⟩ := h.jr x.task ht j hj
  have hii : i' = i := by omega
  subst hii
  rw [hx] at e2
  cases e2
  have hjo := (ho.job x.task ht j hj).1
  have hlt := hjo.lt
  have hL := (ho.len x.task ht).2
  obtain ⟨l, hll⟩ := st_some (hs.prog x.task ht) (e := j.p) (by omega)
  have hlen := st_len _ hll
  have hleft := e3.ur.left hjo
  have hlr := hjo.left_range hL
  have hu0 : 0 ≤ x.used := by
    rcases e3.ur.pl with ⟨g, _⟩ | ⟨g, _⟩ | ⟨g, _⟩ <;> omega
  have hM : ∀ q, q < S.L x.task → S.K x.task q = 1 → 1 ≤ numOf (S.K x.task) (S.N x.task) (fun q => x.dem.getD q 0) q ∧ numOf (S.K x.task) (S.N x.task) (fun q => x.dem.getD q 0) q ≤ 100 := by
    intro q hq h1
    obtain ⟨_, _, _, hpi⟩ := progB_inv (hs.prog x.task ht)
    have h2 := e3.fits.1 q hq h1
    have h3 : S.N x.task q ≤ 100 := by
      rcases hpi.steps q hq with g | g | g
      · exact g.2.2
      · omega
      · omega
    show 1 ≤ (if S.K x.task q = 1 then _ else _) ∧ (if S.K x.task q = 1 then _ else _) ≤ 100
    rw [if_pos h1]
    exact ⟨h2.2.1, by have := h2.2.2; omega⟩
  have hdd := dem_diff (K := S.K x.task) (N := numOf (S.K x.task) (S.N x.task) (fun q => x.dem.getD q 0)) (a := 0) (S.L x.task) (fun q _ h2 h3 => hM q (by omega) h3)
  rw [Nat.zero_add] at hdd
  have e0 : demTo (S.K x.task) (numOf (S.K x.task) (S.N x.task) (fun q => x.dem.getD q 0)) 0 = 0 := rfl
  refine ⟨j, l, ht, hj, ho1, e3, hll, by omega, hu0, by omega, fun r hr hm => ?_⟩
  rw [hl.iff r x.task hr ht]
  have hin := (held_inside (r := r) (hs.prog x.task ht) (Nat.le_of_lt hlt) hll).1 hm
  cases hq : m.q x.task with
  | nil => rw [hq] at hj; cases hj
  | cons y ls =>
    rw [hq] at hj
    rcases List.mem_cons.1 hj with g | g
    · subst g
      exact ⟨j, ls, rfl, hin⟩
    · have hp := hl.rest x.task y ls ht hq j g
      rw [hp] at hll
      have e2 : stTo (S.K x.task) (S.N x.task) 0 = some [] := rfl
      rw [e2] at hll
      cases hll
      cases hm

/-- Who holds a resource is a job of the document's kernel. -/
theorem RR.holder {S : Sy} {m : Mc} {k : RK} (hs : SyOk S) (ho : Ok S m) (hl : LkInv S m) (h : RR S m k) {r : Nat} (hr : r < 8) {t : Nat} (ht : t < S.n) (e : m.hold r = (t : Int)) : ∃ (i : Nat) (x : RJ), k.jobs[i]? = some x ∧ x.done < 0 ∧ x.task = t ∧ ∀ (j : Jb) (l : List Int), j ∈ m.q t → j.ord = (i : Int) → stTo (S.K t) (S.N t) j.p = some l → (r : Int) ∈ l := by
  obtain ⟨j, ls, hq, hin⟩ := (hl.iff r t hr ht).1 e
  obtain ⟨i, x, e1, e2, e3⟩ := h.jr t ht j (by rw [hq]; simp)
  refine ⟨i, x, e2, by have := e3.done; omega, e3.task, fun j' l hj' ho' hl' => ?_⟩
  have hjj : j' = j := by
    rw [hq] at hj'
    rcases List.mem_cons.1 hj' with g | g
    · exact g
    · have hinc := h.inc t ht
      rw [hq] at hinc
      have := (List.pairwise_cons.1 hinc).1 j' g
      omega
  subst hjj
  have hlt := (ho.job t ht j' (by rw [hq]; simp)).1.lt
  exact (held_inside (r := r) (hs.prog t ht) (Nat.le_of_lt hlt) hl').2 hin

set_option maxRecDepth 100000 in
set_option maxHeartbeats 4000000 in
theorem rholds_any {w : World} {B kb tb tc pb pc n : Nat} {T : TD} {Z : Nat → Int} {m : Mc} {k : RK} {jv : Value} {dv : Nat → Option Addr × Nat} (h : RKAt w B kb tb tc pb pc n T Z k jv dv) (hR : RR (sysOf T Z n) m k) (ho : Ok (sysOf T Z n) m) (hl : LkInv (sysOf T Z n) m) (hG : Good T n) (hP : PrioB Z n) (hlen : k.jobs.length ≤ 1000000000000000000) {r : Nat} (hr : r < 8) :
    Calls Tryz.prog 48 #[.pointer (some ⟨kb, 0, none⟩), .int .i64 r] w fun e w' => e = .returned (.tuple #[.int .i64 (m.hold r), .int .i64 0]) ∧ Below w.heap.size w w' := by
  have hso := syok_of hG hP
  have HRK : Hid (RKAt w B kb tb tc pb pc n T Z k jv dv) := h
  have HG : Hid (Good T n) := hG
  have HHO : Hid (∀ (i : Nat) (x : RJ), k.jobs[i]? = some x → x.done < 0 → ∃ (j : Jb) (l : List Int), x.task < n ∧ j ∈ m.q x.task ∧ j.ord = (i : Int) ∧ JR (sysOf T Z n) x.task j x ∧ stTo (T.K x.task) (T.N x.task) j.p = some l ∧ l.length ≤ 16 ∧ 0 ≤ x.used ∧ x.used ≤ 10000 ∧ ∀ r : Nat, r < 8 → ((r : Int) ∈ l → m.hold r = (x.task : Int))) := fun i x hx hd => RR.holds hso ho hl hR hx hd
  have HOW : Hid (m.hold r = -1 ∨ ∃ t, t < n ∧ m.hold r = (t : Int)) := hl.own r hr
  have HHR : Hid (∀ t, t < n → m.hold r = (t : Int) → ∃ (i : Nat) (x : RJ), k.jobs[i]? = some x ∧ x.done < 0 ∧ x.task = t ∧ ∀ (j : Jb) (l : List Int), j ∈ m.q t → j.ord = (i : Int) → stTo (T.K t) (T.N t) j.p = some l → (r : Int) ∈ l) := fun t ht e => RR.holder hso ho hl hR hr ht e
  have hkl := h.row.lt
  have b1 : decide ((r : Int) < 0) = false := decide_eq_false (by omega)
  have b2 : decide (7 < (r : Int)) = false := decide_eq_false (by omega)
  clear h hR ho hl hG hP hso
  go_enter Tryz.func48, Tryz.ntmps48
  go_wp2_with fail
  go_loopw [6] (fun iv wr => ∃ i : Nat, i ≤ k.jobs.length ∧ iv = .int .i64 i ∧ (∀ (i' : Nat) (y : RJ), i' < i → k.jobs[i']? = some y → y.done < 0 → ∃ (j : Jb) (l : List Int), j ∈ m.q y.task ∧ j.ord = (i' : Int) ∧ stTo (T.K y.task) (T.N y.task) j.p = some l ∧ (r : Int) ∉ l) ∧ Below w.heap.size w wr) (fun iv _ => k.jobs.length - (intOf iv).toNat)
  case atStart => exact ⟨0, Nat.zero_le _, rfl, fun i' y hlt => by omega, Below.refl _ _⟩
  case round =>
    obtain ⟨i, hi, rfl, hno, hbel⟩ := hrel
    have HB : Hid (Below w.heap.size w wr) := hbel
    have HNO : Hid (∀ (i' : Nat) (y : RJ), i' < i → k.jobs[i']? = some y → y.done < 0 → ∃ (j : Jb) (l : List Int), j ∈ m.q y.task ∧ j.ord = (i' : Int) ∧ stTo (T.K y.task) (T.N y.task) j.p = some l ∧ (r : Int) ∉ l) := hno
    have hRr := HRK.out.below hbel
    obtain ⟨y0, _, y2, _⟩ := hRr.rc
    have hkr := hRr.row.lt
    clear hbel hno
    by_cases hil : i < k.jobs.length
    · obtain ⟨x, hx⟩ : ∃ x, k.jobs[i]? = some x := ⟨_, List.getElem?_eq_getElem hil⟩
      have HX : Hid (k.jobs[i]? = some x) := hx
      obtain ⟨t, htk⟩ : ∃ t, t = x.task := ⟨_, rfl⟩
      have HTK : Hid (t = x.task) := htk
      obtain ⟨g, cap, rfl, _, hgl, hcap, hc, _⟩ := hRr.job hx
      have c0 : wr.cell? ⟨g, i * 7, none⟩ = some (.int .i64 (t : Int)) := by rw [htk]; exact hc 0 _ rfl
      have c1 : wr.cell? ⟨g, i * 7 + 1, none⟩ = some (.int .i64 x.arr) := hc 1 _ rfl
      have c2 : wr.cell? ⟨g, i * 7 + 2, none⟩ = some (.int .i64 x.rel) := hc 2 _ rfl
      have c3 : wr.cell? ⟨g, i * 7 + 3, none⟩ = some (.slice (dv i).1 x.dem.length (dv i).2) := hc 3 _ rfl
      have c4 : wr.cell? ⟨g, i * 7 + 4, none⟩ = some (.int .i64 x.used) := hc 4 _ rfl
      have c5 : wr.cell? ⟨g, i * 7 + 5, none⟩ = some (.int .i64 x.done) := hc 5 _ rfl
      have c6 : wr.cell? ⟨g, i * 7 + 6, none⟩ = some (.int .i64 x.ended) := hc 6 _ rfl
      have hszw := HB.out.size
      have HBB : Hid (Below w.heap.size w (wr.alloc (.cells #[.int .i64 (t : Int), .int .i64 x.arr, .int .i64 x.rel, .slice (dv i).1 x.dem.length (dv i).2, .int .i64 x.used, .int .i64 x.done, .int .i64 x.ended] 148))) := HB.out.trans ((below_alloc1 _ _).mono hszw)
      by_cases hdn : x.done < 0
      · have bd : decide (x.done < 0) = true := decide_eq_true hdn
        obtain ⟨j, l, q1, q2, q3, q4, q5, q6, q7, q8, q9⟩ := HHO.out i x hx hdn
        rw [← htk] at q1 q2 q4 q5 q9
        obtain ⟨W1, hW1⟩ : ∃ W1, W1 = (wr.alloc (.cells #[.int .i64 (t : Int), .int .i64 x.arr, .int .i64 x.rel, .slice (dv i).1 x.dem.length (dv i).2, .int .i64 x.used, .int .i64 x.done, .int .i64 x.ended] 148)) := ⟨_, rfl⟩
        have hbx := row7 wr (.int .i64 (t : Int)) (.int .i64 x.arr) (.int .i64 x.rel) (.slice (dv i).1 x.dem.length (dv i).2) (.int .i64 x.used) (.int .i64 x.done) (.int .i64 x.ended) 148
        rw [← hW1] at hbx HBB
        have hb1 : Below wr.heap.size wr W1 := by rw [hW1]; exact below_alloc1 _ _
        have h1 := hRr.below hb1
        obtain ⟨hl1, hl16, _, _⟩ := progB_inv (HG.out.prog t q1)
        obtain ⟨_, _, _, t3, tp⟩ := h1.tasks t q1
        obtain ⟨sb, so, hAd, hsb, hstp⟩ := tp.2 hl1
        rw [hAd, Nat.zero_add] at t3
        have x0 : W1.cell? ⟨wr.heap.size, 0, none⟩ = some (.int .i64 (t : Int)) := hbx.cell (by omega)
        have x3 : W1.cell? ⟨wr.heap.size, 3, none⟩ = some (.slice (dv i).1 x.dem.length (dv i).2) := hbx.cell (by omega)
        have x4 : W1.cell? ⟨wr.heap.size, 4, none⟩ = some (.int .i64 x.used) := hbx.cell (by omega)
        have x5 : W1.cell? ⟨wr.heap.size, 5, none⟩ = some (.int .i64 x.done) := hbx.cell (by omega)
        have hbl := hbx.lt
        obtain ⟨j0, _⟩ := h1.rc
        have hk1 := h1.row.lt
        have ht1 := h1.tlt
        have hdm := h1.dems i x hx
        have HHE : Hid (∀ w1, Below W1.heap.size W1 w1 → Calls Tryz.prog 77 #[.slice (some ⟨sb, so, none⟩) (T.L t) (T.C t), .slice (dv i).1 x.dem.length (dv i).2, .int .i64 x.used] w1 fun e w2 => ∃ v, e = .returned v ∧ (w2.cell? ⟨kb, 0, none⟩ = some (.slice (some ⟨tb, 0, none⟩) n tc) ∧ w2.cell? ⟨wr.heap.size, 0, none⟩ = some (.int .i64 (t : Int)) ∧ w2.cell? ⟨tb, t * 4 + 3, none⟩ = some (.slice (some ⟨sb, so, none⟩) (T.L t) (T.C t)) ∧ w2.cell? ⟨wr.heap.size, 3, none⟩ = some (.slice (dv i).1 x.dem.length (dv i).2) ∧ w2.cell? ⟨wr.heap.size, 4, none⟩ = some (.int .i64 x.used)) ∧ Hid (w2.ownsRow W1.heap.size 3 1 v l.length (l.map (Value.int .i64)) ∧ Below W1.heap.size W1 w2)) := by
          intro w1 hbw
          have hsz := hbw.size
          refine (held_any (HG.out.prog t q1) (by omega) (fun q hq => ⟨(hbw.cell (p := ⟨sb, so + q * 2, none⟩) hsb).trans (hstp q hq).1, (hbw.cell (p := ⟨sb, so + q * 2 + 1, none⟩) hsb).trans (hstp q hq).2⟩) (hdm.below hbw) q4.fits q4.ur.pl q5 ⟨q7, q8⟩).mono ?_
          rintro e w2 ⟨v, he, hov, hb2⟩
          have hb12 := hbw.trans (hb2.mono hsz)
          refine ⟨v, he, ⟨(hb12.cell (p := ⟨kb, 0, none⟩) hk1).trans j0, (hb12.cell (p := ⟨wr.heap.size, 0, none⟩) hbl).trans x0, (hb12.cell (p := ⟨tb, t * 4 + 3, none⟩) ht1).trans t3, (hb12.cell (p := ⟨wr.heap.size, 3, none⟩) hbl).trans x3, (hb12.cell (p := ⟨wr.heap.size, 4, none⟩) hbl).trans x4⟩, ⟨hov.1, ?_⟩, hb12⟩
          rcases hov.2 with q | ⟨g, cp, cur, h1, h2, h3⟩
          · exact .inl q
          · exact .inr ⟨g, cp, cur, h1, by omega, h3⟩
        have HW1 : Hid (W1 = (wr.alloc (.cells #[.int .i64 (t : Int), .int .i64 x.arr, .int .i64 x.rel, .slice (dv i).1 x.dem.length (dv i).2, .int .i64 x.used, .int .i64 x.done, .int .i64 x.ended] 148))) := hW1
        have HQ9 : Hid ((r : Int) ∈ l → m.hold r = (t : Int)) := q9 r hr
        have HQ : Hid (j ∈ m.q t ∧ j.ord = (i : Int) ∧ stTo (T.K t) (T.N t) j.p = some l) := ⟨q2, q3, q5⟩
        clear hx htk hc hRr q2 q3 q4 q5 q7 q8 q9 hW1 hbx hb1 h1 tp hstp hAd hsb hdm hdn hszw
        go_wp2_with fail
        rw [← HW1.out]
        generalize hbxe : wr.heap.size = bx at *
        clear hbxe HW1 c0 c1 c2 c3 c4 c5 c6
        go_wp2_with fail
        go_region_held (fun w' => w'.cell? ⟨kb, 0, none⟩ = some (.slice (some ⟨tb, 0, none⟩) n tc) ∧ w'.cell? ⟨bx, 0, none⟩ = some (.int .i64 (t : Int)) ∧ w'.cell? ⟨tb, t * 4 + 3, none⟩ = some (.slice (some ⟨sb, so, none⟩) (T.L t) (T.C t)) ∧ w'.cell? ⟨bx, 3, none⟩ = some (.slice (dv i).1 x.dem.length (dv i).2) ∧ w'.cell? ⟨bx, 4, none⟩ = some (.int .i64 x.used)) (first | go_keep | exact hcells) (first | (go_at_call 77; refine (HHE.out _ (below_drewM (Below.refl _ _) _)).mono ?_; rintro e w2 ⟨v, rfl, hcells, hks⟩) | (go_at_call 76; obtain ⟨ao6, cp6, rfl, _⟩ := own_shape hks.out.1; refine (has_own (r : Int) _ rfl (by omega) hks.out.1).mono ?_; rintro e w6 ⟨rfl, rfl⟩))
        have HBW : Hid (Below w.heap.size w w6) := HBB.out.trans (hks.out.2.mono HBB.out.size)
        have y5 : w6.cell? ⟨bx, 0, none⟩ = some (.int .i64 (t : Int)) := hcells.2.1
        have hbl2 : bx < w6.heap.size := by have := hks.out.2.size; omega
        clear hcells HHE
        by_cases hin : (r : Int) ∈ l
        · have hd : decide ((r : Int) ∈ l) = true := decide_eq_true hin
          rw [hd]
          have HE : Hid (m.hold r = (t : Int)) := HQ9.out hin
          clear hin hd
          go_wp2
          go_ret2
          exact ⟨by rw [HE.out]; rfl, HBW.out⟩
        · have hd : decide ((r : Int) ∈ l) = false := decide_eq_false hin
          rw [hd]
          have HN2 : Hid (∀ (i' : Nat) (y : RJ), i' < i + 1 → k.jobs[i']? = some y → y.done < 0 → ∃ (j : Jb) (l : List Int), j ∈ m.q y.task ∧ j.ord = (i' : Int) ∧ stTo (T.K y.task) (T.N y.task) j.p = some l ∧ (r : Int) ∉ l) := by
            intro i' y hlt hy hdy
            by_cases c : i' < i
            · exact HNO.out i' y c hy hdy
            · have e : i' = i := by omega
              subst e
              rw [HX.out] at hy
              cases hy
              rw [← HTK.out]
              exact ⟨j, l, HQ.out.1, HQ.out.2.1, HQ.out.2.2, hin⟩
          clear hin hd
          go_wp2
          go_roundw
          case rel => exact ⟨i + 1, by omega, by go_num, HN2.out, HBW.out⟩
          case measure => simp [intOf]; omega
      · have bd : decide (x.done < 0) = false := decide_eq_false hdn
        have HN2 : Hid (∀ (i' : Nat) (y : RJ), i' < i + 1 → k.jobs[i']? = some y → y.done < 0 → ∃ (j : Jb) (l : List Int), j ∈ m.q y.task ∧ j.ord = (i' : Int) ∧ stTo (T.K y.task) (T.N y.task) j.p = some l ∧ (r : Int) ∉ l) := by
          intro i' y hlt hy hd
          by_cases c : i' < i
          · exact HNO.out i' y c hy hd
          · have e : i' = i := by omega
            subst e
            rw [HX.out] at hy
            cases hy
            exact absurd hd hdn
        clear hx htk hc hRr hdn
        go_wp2
        go_roundw
        case rel => exact ⟨i + 1, by omega, by go_num, HN2.out, HBB.out⟩
        case measure => simp [intOf]; omega
    · obtain rfl : i = k.jobs.length := by omega
      obtain ⟨ao, cap, rfl, hcap⟩ := hRr.shape
      have HE : Hid (m.hold r = -1) := by
        rcases HOW.out with g | ⟨t, ht, g⟩
        · exact g
        · obtain ⟨i', x, e1, e2, e3, e4⟩ := HHR.out t ht g
          obtain ⟨j, l, f1, f2, f3, f4⟩ := HNO.out i' x (List.getElem?_eq_some_iff.1 e1).1 e1 e2
          rw [e3] at f1 f3
          exact absurd (e4 j l f1 f2 f3) f4
      clear hRr
      generalize k.jobs.length = kl at *
      go_wp2
      go_ret2
      exact ⟨by rw [HE.out]; rfl, HB.out⟩

end Go.Proofs.YtdabcflpcklfiaaGreat
