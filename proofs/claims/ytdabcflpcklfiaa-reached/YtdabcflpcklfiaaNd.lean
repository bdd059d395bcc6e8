import Derived.Test.YtdabcflpcklfiaaNc
/- A kernel of whatever tasks and priorities is opened, or refused. -/
namespace Go.Proofs.Ytdabcflpcklfiaa
open Go.RowKit Cad

set_option maxRecDepth 100000 in
set_option maxHeartbeats 1000000 in
theorem opened_err (so ao : Option Addr) (n cap pn pc : Nat) (E A : Int) (w : World) (hE : E ≠ 0)
    (hA : ∀ w1, Below w.heap.size w w1 → Calls Try.prog 16 #[.slice so n cap, .slice ao pn pc] w1 fun e w' => e = .returned (.tuple #[.slice none 0 0, .int .i64 E, .int .i64 A]) ∧ Below w1.heap.size w1 w')
    (hN : ∀ w1, Below w.heap.size w w1 → Calls Try.prog 42 #[.slice so n cap, .slice ao pn pc] w1 fun e w' => e = .returned (.tuple #[.pointer none, .int .i64 E, .int .i64 A]) ∧ Below w1.heap.size w1 w') :
    Calls Try.prog 23 #[.slice so n cap, .slice ao pn pc] w fun e w' => e = .returned (.tuple #[.pointer none, .slice none 0 0, .bool true]) ∧ Below w.heap.size w w' := by
  have HA : Hid (∀ w1, Below w.heap.size w w1 → Calls Try.prog 16 #[.slice so n cap, .slice ao pn pc] w1 fun e w' => e = .returned (.tuple #[.slice none 0 0, .int .i64 E, .int .i64 A]) ∧ Below w1.heap.size w1 w') := hA
  have HN : Hid (∀ w1, Below w.heap.size w w1 → Calls Try.prog 42 #[.slice so n cap, .slice ao pn pc] w1 fun e w' => e = .returned (.tuple #[.pointer none, .int .i64 E, .int .i64 A]) ∧ Below w1.heap.size w1 w') := hN
  have hb : (E != 0) = true := by simpa using hE
  clear hA hN hE
  go_enter Try.func23, Try.ntmps23
  go_wp2_with fail
  refine (sure_any w).mono ?_
  rintro e w1 ⟨rfl, hb1⟩
  have HB1 : Hid (Below w.heap.size w w1) := hb1
  clear hb1
  go_wp2_with fail
  refine (HA.out w1 HB1.out).mono ?_
  rintro e w2 ⟨rfl, hb2⟩
  have HB2 : Hid (Below w.heap.size w w2) := HB1.out.trans (hb2.mono HB1.out.size)
  clear hb2
  go_wp2_with fail
  refine (HN.out w2 HB2.out).mono ?_
  rintro e w3 ⟨rfl, hb3⟩
  have HB3 : Hid (Below w.heap.size w w3) := HB2.out.trans (hb3.mono HB2.out.size)
  clear hb3
  have hee : (E == E) = true := by simp
  have haa : (A == A) = true := by simp
  go_wp2
  go_ret3
  exact ⟨rfl, HB3.out⟩

set_option maxRecDepth 100000 in
set_option maxHeartbeats 1000000 in
theorem opened_ok (b off n cap po pof pc : Nat) (T : TD) (Z : Nat → Int) (w : World) (hc : chkR T n = (0, 0)) (hb : b < w.heap.size) (hpo : po < w.heap.size) (hT : TasksAt w b off n T) (hZ : IntsAt w po pof n Z) (hp : PrioB Z n) :
    Calls Try.prog 23 #[.slice (some ⟨b, off, none⟩) n cap, .slice (some ⟨po, pof, none⟩) n pc] w fun e w' => ∃ (kb g : Nat) (R : Nat → Int), e = .returned (.tuple #[.pointer (some ⟨kb, 0, none⟩), .slice (some ⟨g, 0, none⟩) n n, .bool true]) ∧ w.heap.size ≤ g ∧ w'.rowIs g 3 n (fun q => .int .i64 (R q)) ∧ (∀ i, i < n → CodeB T Z n i (R i)) ∧
      KSt (fun q => q < w.heap.size ∨ q = g) w' kb (sysOf T Z n) Cad.start ∧ Below w.heap.size w w' := by
  have HT : Hid (TasksAt w b off n T) := hT
  have HZ : Hid (IntsAt w po pof n Z) := hZ
  have HC : Hid (chkR T n = (0, 0)) := hc
  have HP : Hid (PrioB Z n) := hp
  clear hT hZ hc hp
  go_enter Try.func23, Try.ntmps23
  go_wp2_with fail
  refine (sure_any w).mono ?_
  rintro e w1 ⟨rfl, hb1⟩
  have HB1 : Hid (Below w.heap.size w w1) := hb1
  have hs1 := hb1.size
  clear hb1
  go_wp2_with fail
  refine (ana_ok b off n cap po pof pc T Z w1 HC.out (by omega) (by omega) (TasksAt.below HT.out hb HB1.out) (IntsAt.below HZ.out hpo HB1.out) HP.out).mono ?_
  rintro e w2 ⟨g, R, rfl, hg, hrow, hR, hb2⟩
  have hs2 := hb2.size
  have HB2 : Hid (Below w.heap.size w w2) := HB1.out.trans (hb2.mono hs1)
  have HROW : Hid (w2.rowIs g 3 n (fun q => .int .i64 (R q))) := hrow
  have HR : Hid (∀ i, i < n → CodeB T Z n i (R i)) := hR
  have hgl := hrow.lt
  have HNW : Hid (Calls Try.prog 42 #[.slice (some ⟨b, off, none⟩) n cap, .slice (some ⟨po, pof, none⟩) n pc] w2 fun e w' => ∃ kb, e = .returned (.tuple #[.pointer (some ⟨kb, 0, none⟩), .int .i64 0, .int .i64 0]) ∧ w'.rowIs g 3 n (fun q => .int .i64 (R q)) ∧ KSt (fun q => q < w.heap.size ∨ q = g) w' kb (sysOf T Z n) Cad.start ∧ Below w.heap.size w w') := by
    unfold Hid
    refine (new_ok b off n cap po pof pc T Z w2 HC.out (by omega) (by omega) (TasksAt.below HT.out hb HB2.out) (IntsAt.below HZ.out hpo HB2.out) HP.out).mono ?_
    rintro e w' ⟨kb, Y, rfl, hk, hbn, hf⟩
    refine ⟨kb, rfl, HROW.out.of_block (hbn.block _ hgl), ⟨Y, hk, fun q hq ho => ?_⟩, HB2.out.trans (hbn.mono (by omega))⟩
    have := hf q hq
    rcases ho with h | h <;> omega
  clear hrow hR hb2
  go_wp2_with fail
  refine (HNW.out).mono ?_
  rintro e w3 ⟨kb, rfl, hrow3, hk3, hb3⟩
  have HROW3 : Hid (w3.rowIs g 3 n (fun q => .int .i64 (R q))) := hrow3
  have HK3 : Hid (KSt (fun q => q < w.heap.size ∨ q = g) w3 kb (sysOf T Z n) Cad.start) := hk3
  have HB3 : Hid (Below w.heap.size w w3) := hb3
  clear hrow3 hk3 hb3 HNW
  have hnn : ((n : Int) == (n : Int)) = true := by simp
  go_wp2
  go_ret3
  exact ⟨kb, g, R, rfl, by omega, HROW3.out, HR.out, HK3.out, HB3.out⟩

set_option maxHeartbeats 400000 in
theorem both_none (so : Option Addr) (cap : Nat) (pv : Value) (w : World) :
    Calls Try.prog 45 #[.slice so 0 cap, pv] w fun e w' => e = .returned (.tuple #[.int .i64 1, .int .i64 0]) ∧ Below w.heap.size w w' := by
  go_enter Try.func45, Try.ntmps45
  go_wp2
  go_ret2
  exact ⟨rfl, Below.refl _ _⟩

set_option maxHeartbeats 400000 in
theorem ana_none (so : Option Addr) (cap : Nat) (pv : Value) (w : World) :
    Calls Try.prog 16 #[.slice so 0 cap, pv] w fun e w' => e = .returned (.tuple #[.slice none 0 0, .int .i64 1, .int .i64 0]) ∧ Below w.heap.size w w' := by
  go_enter Try.func16, Try.ntmps16
  go_wp2_with fail
  refine (both_none so cap pv w).mono ?_
  rintro e w1 ⟨rfl, hb1⟩
  go_wp2
  go_ret3
  exact ⟨rfl, hb1⟩

set_option maxHeartbeats 400000 in
theorem new_none (so : Option Addr) (cap : Nat) (pv : Value) (w : World) :
    Calls Try.prog 42 #[.slice so 0 cap, pv] w fun e w' => e = .returned (.tuple #[.pointer none, .int .i64 1, .int .i64 0]) ∧ Below w.heap.size w w' := by
  go_enter Try.func42, Try.ntmps42
  go_wp2_with fail
  refine (both_none so cap pv w).mono ?_
  rintro e w1 ⟨rfl, hb1⟩
  go_wp2
  go_ret3
  exact ⟨rfl, hb1⟩

/-- How an opening comes out: refused, or a kernel with its bounds. -/
theorem opened_any (so ao : Option Addr) (n cap pn pc : Nat) (T : TD) (Z : Nat → Int) (w : World) (hm : n ≤ 9223372036854775807) (hT : 1 ≤ n → ∃ b off, so = some ⟨b, off, none⟩ ∧ b < w.heap.size ∧ TasksAt w b off n T)
    (hZ : 1 ≤ pn → ∃ pb po, ao = some ⟨pb, po, none⟩ ∧ pb < w.heap.size ∧ IntsAt w pb po pn Z) :
    Calls Try.prog 23 #[.slice so n cap, .slice ao pn pc] w fun e w' => (e = .returned (.tuple #[.pointer none, .slice none 0 0, .bool true]) ∧ Below w.heap.size w w') ∨
      (∃ (kb g : Nat) (R : Nat → Int), pn = n ∧ Good T n ∧ PrioB Z n ∧ e = .returned (.tuple #[.pointer (some ⟨kb, 0, none⟩), .slice (some ⟨g, 0, none⟩) n n, .bool true]) ∧ w.heap.size ≤ g ∧ w'.rowIs g 3 n (fun q => .int .i64 (R q)) ∧ (∀ i, i < n → CodeB T Z n i (R i)) ∧
        KSt (fun q => q < w.heap.size ∨ q = g) w' kb (sysOf T Z n) Cad.start ∧ Below w.heap.size w w') := by
  by_cases h0 : n = 0
  · subst h0
    exact (opened_err so ao 0 cap pn pc 1 0 w (by decide) (fun w1 _ => ana_none so cap _ w1) (fun w1 _ => new_none so cap _ w1)).mono (fun e w' hh => .inl hh)
  · obtain ⟨b, off, rfl, hb, hTb⟩ := hT (by omega)
    obtain ⟨x, y, hxy⟩ : ∃ x y, chkR T n = (x, y) := ⟨_, _, rfl⟩
    have hTw : ∀ w1, Below w.heap.size w w1 → TasksAt w1 b off n T ∧ b < w1.heap.size := fun w1 h1 => ⟨TasksAt.below hTb hb h1, by have := h1.size; omega⟩
    by_cases hx : x = 0
    · subst hx
      obtain ⟨hg, hy⟩ := good_of_chk hxy
      subst hy
      by_cases hp : pn = n ∧ PrioB Z n
      · obtain ⟨rfl, hpr⟩ := hp
        obtain ⟨pb, po, rfl, hpb, hZb⟩ := hZ (by omega)
        refine (opened_ok b off pn cap pb po pc T Z w hxy hb hpb hTb hZb hpr).mono (fun e w' hh => .inr ?_)
        obtain ⟨kb, g, R, h1, h2, h3, h4, h5, h6⟩ := hh
        exact ⟨kb, g, R, rfl, hg, hpr, h1, h2, h3, h4, h5, h6⟩
      · have hor : ∀ w1, Below w.heap.size w w1 → (pn ≠ n ∨ ∃ pb po Z', ao = some ⟨pb, po, none⟩ ∧ pn = n ∧ pb < w1.heap.size ∧ IntsAt w1 pb po n Z' ∧ ¬ PrioB Z' n) := fun w1 h1 => by
          by_cases e : pn = n
          · obtain ⟨pb, po, e2, hpb, hZb⟩ := hZ (by omega)
            refine .inr ⟨pb, po, Z, e2, e, by have := h1.size; omega, ?_, fun hq => hp ⟨e, hq⟩⟩
            rw [← e]
            exact IntsAt.below hZb hpb h1
          · exact .inl e
        exact (opened_err _ ao n cap pn pc 4 0 w (by decide) (fun w1 h1 => ana_ord b off n cap ao pn pc T w1 hxy (hTw w1 h1).2 (hTw w1 h1).1 (hor w1 h1)) (fun w1 h1 => new_ord b off n cap ao pn pc T w1 hxy (hTw w1 h1).2 (hTw w1 h1).1 (hor w1 h1))).mono (fun e w' hh => .inl hh)
    · exact (opened_err _ ao n cap pn pc x y w hx (fun w1 h1 => ana_err b off n cap _ T x y w1 hxy hx hm (hTw w1 h1).2 (hTw w1 h1).1) (fun w1 h1 => new_err b off n cap _ T x y w1 hxy hx hm (hTw w1 h1).2 (hTw w1 h1).1)).mono (fun e w' hh => .inl hh)

end Go.Proofs.Ytdabcflpcklfiaa
