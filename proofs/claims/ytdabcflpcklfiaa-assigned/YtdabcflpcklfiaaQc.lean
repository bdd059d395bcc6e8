import Derived.Test.YtdabcflpcklfiaaQb
/- The law Assigned. -/
namespace Go.Proofs.Ytdabcflpcklfiaa
open Go.RowKit

/-- How Assign comes out. -/
def OutcS (T : TD) (n : Nat) (E A : Int) (m : Nat) : Prop :=
  (m = 0 ∧ chkR T n = (E, A) ∧ E ≠ 0) ∨ (m = 0 ∧ chkR T n = (0, 0) ∧ E = 10 ∧ A = 0 ∧ ¬ Poss T n (fun q => decide (q < n))) ∨ (m = n ∧ chkR T n = (0, 0) ∧ E = 0 ∧ A = 0 ∧ Poss T n (fun q => decide (q < n)))

theorem outcS_ex (T : TD) (n : Nat) : ∃ E A m, OutcS T n E A m ∧ m ≤ 8 := by
  obtain ⟨x, y, hxy⟩ : ∃ x y, chkR T n = (x, y) := ⟨_, _, rfl⟩
  by_cases hx : x = 0
  · subst hx
    obtain ⟨hg, hy⟩ := good_of_chk hxy
    subst hy
    by_cases hp : Poss T n (fun q => decide (q < n))
    · exact ⟨0, 0, n, .inr (.inr ⟨rfl, hxy, rfl, rfl, hp⟩), hg.eight⟩
    · exact ⟨10, 0, 0, .inr (.inl ⟨rfl, hxy, rfl, rfl, hp⟩), by omega⟩
  · exact ⟨x, y, 0, .inl ⟨rfl, hxy, hx⟩, by omega⟩

theorem outcS_lent {T : TD} {S : Nat → Nat} {n m : Nat} {E A : Int} (h : OutcS T n E A m) : OutcS (T.lent S) n E A m := h

/-- What comes out of a search that succeeds. -/
def LowZ (T : TD) (n m : Nat) (X : Nat → Int) : Prop := m = n → 1 ≤ n → Cad.PrioB X n ∧ ∀ i, i < n → Low T n (fun q => if q < n then decide (X i ≤ X q) else false) i

theorem code_allS (b off n cap : Nat) (T : TD) (E A : Int) (m : Nat) (w : World) (hm : n ≤ 9223372036854775807) (ho : OutcS T n E A m) (hb : b < w.heap.size) (hT : TasksAt w b off n T) :
    Calls Try.prog 15 #[.slice (some ⟨b, off, none⟩) n cap] w fun e w' => ∃ xv X, e = .returned (.tuple #[xv, .int .i64 E, .int .i64 A]) ∧ OutX w.heap.size w' m xv X ∧ (1 ≤ m → Cad.PrioB X n ∧ ∀ i, i < n → Low T n (fun q => if q < n then decide (X i ≤ X q) else false) i) ∧ Below w.heap.size w w' := by
  rcases ho with ⟨rfl, hc, hE⟩ | ⟨rfl, hc, rfl, rfl, hno⟩ | ⟨rfl, hc, rfl, rfl, hp⟩
  · refine (assign_err _ n cap E A w hE (check_errs _ n cap T w hm (fun _ => ⟨b, off, rfl, hb, hT⟩) E A hc w (Below.refl _ _))).mono ?_
    rintro e w' ⟨rfl, hb'⟩
    exact ⟨_, fun _ => 0, rfl, .inl ⟨rfl, rfl⟩, fun h => by omega, hb'⟩
  · refine (assign_ok b off n cap T w hc hb hT).mono ?_
    rintro e w' ⟨⟨rfl, _⟩ | ⟨pb, Z, rfl, _, _, hpr, hhas, _⟩, hb'⟩
    · exact ⟨_, fun _ => 0, rfl, .inl ⟨rfl, rfl⟩, fun h => by omega, hb'⟩
    · exact absurd (poss_of_prio hpr hhas) hno
  · refine (assign_ok b off _ cap T w hc hb hT).mono ?_
    rintro e w' ⟨⟨rfl, hno⟩ | ⟨pb, Z, rfl, hpb, hrow, hpr, _, hlow⟩, hb'⟩
    · exact absurd hp hno
    · exact ⟨_, Z, rfl, .inr ⟨pb, rfl, hpb, hrow⟩, fun _ => ⟨hpr, hlow⟩, hb'⟩

theorem ref_allS (b off n cap : Nat) (T : TD) (E A : Int) (m : Nat) (w : World) (hm : n ≤ 9223372036854775807) (ho : OutcS T n E A m) (hb : b < w.heap.size) (hT : TasksAt w b off n T) :
    Calls Try.prog 40 #[.slice (some ⟨b, off, none⟩) n cap] w fun e w' => ∃ yv Y, e = .returned (.tuple #[yv, .int .i64 E, .int .i64 A]) ∧ OutY w' m yv Y ∧ (1 ≤ m → Cad.PrioB Y n ∧ ∀ i, i < n → Low T n (fun q => if q < n then decide (Y i ≤ Y q) else false) i) ∧ Below w.heap.size w w' := by
  rcases ho with ⟨rfl, hc, hE⟩ | ⟨rfl, hc, rfl, rfl, hno⟩ | ⟨rfl, hc, rfl, rfl, hp⟩
  · refine (refassign_err _ n cap E A w hE (ref_all b off n cap T w E A hc hm hb hT)).mono ?_
    rintro e w' ⟨rfl, hb'⟩
    exact ⟨_, fun _ => 0, rfl, ⟨_, _, rfl, fun h => by omega⟩, fun h => by omega, hb'⟩
  · refine (refassign_ok b off n cap T w hc hb hT).mono ?_
    rintro e w' ⟨⟨rfl, _⟩ | ⟨pb, Z, rfl, _, hpr, hlow⟩, hb'⟩
    · exact ⟨_, fun _ => 0, rfl, ⟨_, _, rfl, fun h => by omega⟩, fun h => by omega, hb'⟩
    · refine absurd ?_ hno
      have h1 := (good_of_chk hc).1.one
      obtain ⟨a, ha, hz⟩ := (Cad.order_iff Z n).2 hpr 0 (by omega)
      have hl := (hlow a ha).poss
      have e : (fun q => if q < n then decide (Z a ≤ Z q) else false) = (fun q => decide (q < n)) := by
        funext q
        by_cases hq : q < n
        · rw [if_pos hq]
          have := (hpr.1 q hq).1
          simp only [hq, decide_true, decide_eq_true_eq]
          omega
        · rw [if_neg hq]; simp [hq]
      rw [e] at hl
      exact hl
  · refine (refassign_ok b off _ cap T w hc hb hT).mono ?_
    rintro e w' ⟨⟨rfl, hno⟩ | ⟨pb, Z, rfl, hrow, hpr, hlow⟩, hb'⟩
    · exact absurd hp hno
    · exact ⟨_, Z, rfl, ⟨_, _, rfl, fun _ => ⟨pb, 0, rfl, fun i hi => by rw [Nat.zero_add]; exact hrow.cell hi⟩⟩, fun _ => ⟨hpr, hlow⟩, hb'⟩

theorem outcS_same {T : TD} {n m : Nat} {E A : Int} {X Y : Nat → Int} (ho : OutcS T n E A m) (hX : 1 ≤ m → Cad.PrioB X n ∧ ∀ i, i < n → Low T n (fun q => if q < n then decide (X i ≤ X q) else false) i) (hY : 1 ≤ m → Cad.PrioB Y n ∧ ∀ i, i < n → Low T n (fun q => if q < n then decide (Y i ≤ Y q) else false) i) : ∀ i, i < m → X i = Y i := by
  intro i hi
  obtain ⟨x1, x2⟩ := hX (by omega)
  obtain ⟨y1, y2⟩ := hY (by omega)
  refine low_prio_unique x1 y1 x2 y2 i ?_
  rcases ho with ⟨rfl, _⟩ | ⟨rfl, _⟩ | ⟨rfl, _⟩
  · omega
  · omega
  · exact hi

set_option maxRecDepth 100000 in
set_option maxHeartbeats 3000000 in
theorem assigns_some (b off n cap Wb B0 : Nat) (T : TD) (w : World) (h1 : 1 ≤ n) (hn8 : n * 48 ≤ 140737488351232) (hL : ∀ i, i < n → T.L i * 16 ≤ 140737488351232)
    (hb : b < B0) (hB0 : B0 ≤ w.heap.size) (hWb : B0 ≤ Wb) (hW : w.rowIs Wb 31 9 (wf9 (.slice none 0 0) (.slice none 0 0) fnil)) (hT : TasksAt w b off n T) (hTB : ∀ i, i < n → 1 ≤ T.L i → ∀ a, T.A i = some a → a.block < B0) :
    Calls Try.prog 13 #[.pointer (some ⟨Wb, 0, none⟩), .slice (some ⟨b, off, none⟩) n cap] w fun e w' => e = .returned (.bool true) ∧ Below B0 w w' := by
  obtain ⟨E, A, m, hout, hm8⟩ := outcS_ex T n
  have HO : Hid (OutcS T n E A m) := hout
  have HT : Hid (TasksAt w b off n T) := hT
  have HTB : Hid (∀ i, i < n → 1 ≤ T.L i → ∀ a, T.A i = some a → a.block < B0) := hTB
  have HL : Hid (∀ i, i < n → T.L i * 16 ≤ 140737488351232) := hL
  have HW : Hid (w.rowIs Wb 31 9 (wf9 (.slice none 0 0) (.slice none 0 0) fnil)) := hW
  clear hT hTB hL hW hout
  have hbw : b < w.heap.size := by omega
  go_enter Try.func13, Try.ntmps13
  go_wp2_with fail
  refine (lent_some b off n cap T _ h1 hn8 HL.out hbw HT.out).mono ?_
  rintro e w1 ⟨S, v, rfl, hlent⟩
  have HLE : Hid (LentInv w.heap.size n n T S v w w1) := hlent
  obtain ⟨ga, acap, hv⟩ : ∃ ga acap, v = .slice (some ⟨ga, 0, none⟩) n acap := by
    obtain ⟨q, rfl⟩ : ∃ q, n = q + 1 := ⟨n - 1, by omega⟩
    exact own_slice hlent.own
  subst hv
  have hlt1 : w.heap.size < w1.heap.size := hlent.lrow.lt
  have HTL : Hid (TasksAt w1 w.heap.size 0 n (T.lent S)) := lent_at hlent HL.out
  have HB1 : Hid (Below w.heap.size w w1) := hlent.below
  clear hlent
  have HC3 : Hid (∀ w1', Below w1.heap.size w1 w1' → Calls Try.prog 15 #[.slice (some ⟨w.heap.size, 0, none⟩) n (n + 1)] w1' fun e w' => ∃ xv X, e = .returned (.tuple #[xv, .int .i64 E, .int .i64 A]) ∧ OutX w1'.heap.size w' m xv X ∧ (1 ≤ m → Cad.PrioB X n ∧ ∀ i, i < n → Low T n (fun q => if q < n then decide (X i ≤ X q) else false) i) ∧ Below w1'.heap.size w1' w') := by
    unfold Hid
    intro w1' hb'
    exact code_allS w.heap.size 0 n (n + 1) (T.lent S) E A m w1' (by omega) (outcS_lent HO.out) (by have := hb'.size; omega) (TasksAt.below HTL.out hlt1 hb')
  go_wp2_with fail
  refine (HC3.out _ (Below.refl _ _)).mono ?_
  rintro e w3 ⟨xv, X, rfl, hx, hX, hb3⟩
  obtain ⟨xo, xc, hxv⟩ := hx.shape
  subst hxv
  have HX : Hid (OutX w1.heap.size w3 m (.slice xo m xc) X) := hx
  have HCX : Hid (1 ≤ m → Cad.PrioB X n ∧ ∀ i, i < n → Low T n (fun q => if q < n then decide (X i ≤ X q) else false) i) := hX
  have hs3 : w1.heap.size ≤ w3.heap.size := hb3.size
  have HB13 : Hid (Below w1.heap.size w1 w3) := hb3
  have HB03 : Hid (Below w.heap.size w w3) := HB1.out.trans (HB13.out.mono (by omega))
  clear hx hX hb3 HC3
  go_wp2_with fail
  refine (ref_allS b off n cap T E A m _ (by omega) HO.out (by omega) (TasksAt.below HT.out hbw HB03.out)).mono ?_
  rintro e w4 ⟨yv, Y, rfl, ⟨yo, yc, rfl, hyi⟩, hY, hb4⟩
  have hs4 : w3.heap.size ≤ w4.heap.size := hb4.size
  have HB34 : Hid (Below w3.heap.size w3 w4) := hb4
  have HYI : Hid (1 ≤ m → ∃ b off, yo = some ⟨b, off, none⟩ ∧ IntsAt w4 b off m X) := fun h => by
    obtain ⟨yb, yf, e, hz⟩ := hyi h
    exact ⟨yb, yf, e, fun i hi => by rw [outcS_same HO.out HCX.out hY i hi]; exact hz i hi⟩
  have HXI : Hid (1 ≤ m → ∃ b off, xo = some ⟨b, off, none⟩ ∧ IntsAt w4 b off m X) := HX.out.ints hb4
  clear hyi hY hb4
  go_wp2_with fail
  refine (sameInts_any xo yo m _ yc X _ (by omega) HXI.out HYI.out).mono ?_
  rintro e w5 ⟨rfl, k5, hw5⟩
  have HB45 : Hid (Below w4.heap.size w4 w5) := by rw [hw5]; exact below_drewN (Below.refl _ _) _
  clear hw5
  have hs5 : w4.heap.size ≤ w5.heap.size := HB45.out.size
  have HB35 : Hid (Below w3.heap.size w3 w5) := HB34.out.trans (HB45.out.mono hs4)
  have HB15 : Hid (Below w1.heap.size w1 w5) := HB13.out.trans (HB35.out.mono (by omega))
  have HB05 : Hid (Below w.heap.size w w5) := HB1.out.trans (HB15.out.mono (by omega))
  clear HB34 HB45 HYI HXI
  obtain ⟨hf, hri⟩ := RI_of_lent hB0 hn8 HL.out hWb HW.out HLE.out HB15.out
  have HF : Hid (RetFix B0 n w.heap.size Wb w5.heap.size 0 0 T S (.slice (some ⟨ga, 0, none⟩) n acap)) := hf
  have HR : Hid (RI B0 n 0 w.heap.size Wb (w.heap.size + 1) w5.heap.size 0 0 T S (.slice (some ⟨ga, 0, none⟩) n acap) (.slice none 0 0) (.slice none 0 0) fnil (lf T S n) (Gk T 0 0) [] [] w5 w5) := hri
  clear hf hri
  have hWl : Wb < w.heap.size := HW.out.lt
  have HSL : Hid (∀ j, j < n → S j < w1.heap.size) := fun j hj => (HLE.out.srow j hj).lt
  go_wp2_with fail
  refine (returned_some b off n cap B0 w.heap.size Wb _ w5.heap.size 0 0 ga acap T S _ _ fnil [] [] _ h1 hb (by omega) (TasksAt.below HT.out hbw HB05.out) HTB.out HF.out HR.out).mono ?_
  rintro e w6 ⟨rfl, vs', vt', hri6⟩
  have HW6 : Hid (w6.rowIs Wb 31 9 (wf9 vs' vt' fnil)) := hri6.wrow
  have HFR6 : Hid (∀ g, w1.heap.size ≤ g → g < w5.heap.size → w6.heap[g]? = w5.heap[g]?) := fun g h1 h2 => hri6.frame g h2 (by omega) (by omega) (fun j hj => by have := HSL.out j hj; omega)
  have HB06 : Hid (Below B0 w w6) := (HB05.out.mono hB0).trans hri6.below
  have hs6 : w5.heap.size ≤ w6.heap.size := hri6.below.size
  clear hri6
  have HK6 : Hid (KeepL w6 B0 m (.slice xo m xc)) := HX.out.keep (by omega) (fun g h1 h2 => (HFR6.out g (by omega) (by omega)).trans (HB35.out.block g h2))
  go_wp2_with fail
  refine (keep_any Wb B0 m 0 (.slice xo m xc) _ _ (by omega) (by omega) (by omega) hWb (by omega) rfl rfl rfl HW6.out HK6.out).mono ?_
  rintro e w8 ⟨rfl, hb8⟩
  have HB08 : Hid (Below B0 w w8) := HB06.out.trans hb8
  clear hb8
  have hee : (E == E) = true := by simp
  have haa : (A == A) = true := by simp
  go_wp2
  go_ret
  exact ⟨rfl, HB08.out⟩

end Go.Proofs.Ytdabcflpcklfiaa
