import Derived.Test.YtdabcflpcklfiaaGreatK31
import Derived.Test.YtdabcflpcklfiaaGreatK07
/- A kernel of whatever tasks and priorities is opened, or refused. -/
namespace Go.Proofs.YtdabcflpcklfiaaGreat
open Go.RowKit Cad

set_option maxRecDepth 100000 in
set_option maxHeartbeats 1000000 in
theorem opened_err (so ao : Option Addr) (n cap pn pc : Nat) (E A : Int) (w : World) (hE : E ≠ 0)
    (hA : ∀ w1, Below w.heap.size w w1 → Calls Tryz.prog 35 #[.slice so n cap, .slice ao pn pc] w1 fun e w' => e = .returned (.tuple #[.slice none 0 0, .int .i64 E, .int .i64 A]) ∧ Below w1.heap.size w1 w')
    (hN : ∀ w1, Below w.heap.size w w1 → Calls Tryz.prog 18 #[.slice so n cap, .slice ao pn pc] w1 fun e w' => e = .returned (.tuple #[.pointer none, .int .i64 E, .int .i64 A]) ∧ Below w1.heap.size w1 w') :
    Calls Tryz.prog 25 #[.slice so n cap, .slice ao pn pc] w fun e w' => e = .returned (.tuple #[.pointer none, .slice none 0 0, .bool true]) ∧ Below w.heap.size w w' := by
  have HA : Hid (∀ w1, Below w.heap.size w w1 → Calls Tryz.prog 35 #[.slice so n cap, .slice ao pn pc] w1 fun e w' => e = .returned (.tuple #[.slice none 0 0, .int .i64 E, .int .i64 A]) ∧ Below w1.heap.size w1 w') := hA
  have HN : Hid (∀ w1, Below w.heap.size w w1 → Calls Tryz.prog 18 #[.slice so n cap, .slice ao pn pc] w1 fun e w' => e = .returned (.tuple #[.pointer none, .int .i64 E, .int .i64 A]) ∧ Below w1.heap.size w1 w') := hN
  have hb : (E != 0) = true := by simpa using hE
  clear hA hN hE
  go_enter Tryz.func25, Tryz.ntmps25
  go_wp2_with fail
  refine (sure_any w).mono ?_
  rintro e w1 ⟨rfl, hb1⟩
  have HB1 : Hid (Below w.heap.size w w1) := hb1
  clear hb1
  go_wp2_with fail
  refine (HA.out w1 HB1.out).mono ?_
  rintro e w2 ⟨rfl, hb2⟩
  have HB2 : Hid (Below w.heap.size w w2) := HB1.out.trans (hb2.mono HB1.out.size)
  clear hb2
  go_wp2_with fail
  refine (HN.out w2 HB2.out).mono ?_
  rintro e w3 ⟨rfl, hb3⟩
  have HB3 : Hid (Below w.heap.size w w3) := HB2.out.trans (hb3.mono HB2.out.size)
  clear hb3
  have hee : (E == E) = true := by simp
  have haa : (A == A) = true := by simp
  go_wp2
  go_ret3
  exact ⟨rfl, HB3.out⟩

set_option maxRecDepth 100000 in
set_option maxHeartbeats 1000000 in
theorem opened_ok (b off n cap po pof pc : Nat) (T : TD) (Z : Nat → Int) (w : World) (hc : chkR T n = (0, 0)) (hb : b < w.heap.size) (hpo : po < w.heap.size) (hT : TasksAt w b off n T) (hZ : IntsAt w po pof n Z) (hp : PrioB Z n) :
    Calls Tryz.prog 25 #[.slice (some ⟨b, off, none⟩) n cap, .slice (some ⟨po, pof, none⟩) n pc] w fun e w' => ∃ (kb g : Nat) (R : Nat → Int), e = .returned (.tuple #[.pointer (some ⟨kb, 0, none⟩), .slice (some ⟨g, 0, none⟩) n n, .bool true]) ∧ w.heap.size ≤ g ∧ w'.rowIs g 3 n (fun q => .int .i64 (R q)) ∧ (∀ i, i < n → CodeB T Z n i (R i)) ∧
      KSt (fun q => q < w.heap.size ∨ q = g) w' kb (sysOf T Z n) Cad.start ∧ Below w.heap.size w w' := by
  have HT : Hid (TasksAt w b off n T) := hT
  have HZ : Hid (IntsAt w po pof n Z) := hZ
  have HC : Hid (chkR T n = (0, 0)) := hc
  have HP : Hid (PrioB Z n) := hp
  clear hT hZ hc hp
  go_enter Tryz.func25, Tryz.ntmps25
  go_wp2_with fail
  refine (sure_any w).mono ?_
  rintro e w1 ⟨rfl, hb1⟩
  have HB1 : Hid (Below w.heap.size w w1) := hb1
  have hs1 := hb1.size
  clear hb1
  go_wp2_with fail
  refine (ana_ok b off n cap po pof pc T Z w1 HC.out (by omega) (by omega) (TasksAt.below HT.out hb HB1.out) (IntsAt.below HZ.out hpo HB1.out) HP.out).mono ?_
  rintro e w2 ⟨g, R, rfl, hg, hrow, hR, hb2⟩
  have hs2 := hb2.size
  have HB2 : Hid (Below w.heap.size w w2) := HB1.out.trans (hb2.mono hs1)
  have HROW : Hid (w2.rowIs g 3 n (fun q => .int .i64 (R q))) := hrow
  have HR : Hid (∀ i, i < n → CodeB T Z n i (R i)) := hR
  have hgl := hrow.lt
  have HNW : Hid (Calls Tryz.prog 18 #[.slice (some ⟨b, off, none⟩) n cap, .slice (some ⟨po, pof, none⟩) n pc] w2 fun e w' => ∃ kb, e = .returned (.tuple #[.pointer (some ⟨kb, 0, none⟩), .int .i64 0, .int .i64 0]) ∧ w'.rowIs g 3 n (fun q => .int .i64 (R q)) ∧ KSt (fun q => q < w.heap.size ∨ q = g) w' kb (sysOf T Z n) Cad.start ∧ Below w.heap.size w w') := by
    unfold Hid
    refine (new_ok b off n cap po pof pc T Z w2 HC.out (by omega) (by omega) (TasksAt.below HT.out hb HB2.out) (IntsAt.below HZ.out hpo HB2.out) HP.out).mono ?_
    rintro e w' ⟨kb, Y, rfl, hk, hbn, hf⟩
    refine ⟨kb, rfl, HROW.out.of_block (hbn.block _ hgl), ⟨Y, hk, fun q hq ho => ?_⟩, HB2.out.trans (hbn.mono (by omega))⟩
    have := hf q hq
    rcases ho with h | h <;> omega
  clear hrow hR hb2
  go_wp2_with fail
  refine (HNW.out).mono ?_
  rintro e w3 ⟨kb, rfl, hrow3, hk3, hb3⟩
  have HROW3 : Hid (w3.rowIs g 3 n (fun q => .int .i64 (R q))) := hrow3
  have HK3 : Hid (KSt (fun q => q < w.heap.size ∨ q = g) w3 kb (sysOf T Z n) Cad.start) := hk3
  have HB3 : Hid (Below w.heap.size w w3) := hb3
  clear hrow3 hk3 hb3 HNW
  have hnn : ((n : Int) == (n : Int)) = true := by simp
  go_wp2
  go_ret3
  exact ⟨kb, g, R, rfl, by omega, HROW3.out, HR.out, HK3.out, HB3.out⟩

set_option maxHeartbeats 400000 in
theorem both_none (so : Option Addr) (cap : Nat) (pv : Value) (w : World) :
    Calls Tryz.prog 43 #[.slice so 0 cap, pv] w fun e w' => e = .returned (.tuple #[.int .i64 1, .int .i64 0]) ∧ Below w.heap.size w w' := by
  go_enter Tryz.func43, Tryz.ntmps43
  go_wp2
  go_ret2
  exact ⟨rfl, Below.refl _ _⟩

set_option maxHeartbeats 400000 in
theorem ana_none (so : Option Addr) (cap : Nat) (pv : Value) (w : World) :
    Calls Tryz.prog 35 #[.slice so 0 cap, pv] w fun e w' => e = .returned (.tuple #[.slice none 0 0, .int .i64 1, .int .i64 0]) ∧ Below w.heap.size w w' := by
  go_enter Tryz.func35, Tryz.ntmps35
  go_wp2_with fail
  refine (both_none so cap pv w).mono ?_
  rintro e w1 ⟨rfl, hb1⟩
  go_wp2
  go_ret3
  exact ⟨rfl, hb1⟩

set_option maxHeartbeats 400000 in
theorem new_none (so : Option Addr) (cap : Nat) (pv : Value) (w : World) :
    Calls Tryz.prog 18 #[.slice so 0 cap, pv] w fun e w' => e = .returned (.tuple #[.pointer none, .int .i64 1, .int .i64 0]) ∧ Below w.heap.size w w' := by
  go_enter Tryz.func18, Tryz.ntmps18
  go_wp2_with fail
  refine (both_none so cap pv w).mono ?_
  rintro e w1 ⟨rfl, hb1⟩
  go_wp2
  go_ret3
  exact ⟨rfl, hb1⟩

/-- How an opening comes out: refused, or a kernel with its bounds. -/
theorem opened_any (so ao : Option Addr) (n cap pn pc : Nat) (T : TD) (Z : Nat → Int) (w : World) (hm : n ≤ 9223372036854775807) (hT : 1 ≤ n → ∃ b off, so = some ⟨b, off, none⟩ ∧ b < w.heap.size ∧ TasksAt w b off n T)
    (hZ : 1 ≤ pn → ∃ pb po, ao = some ⟨pb, po, none⟩ ∧ pb < w.heap.size ∧ IntsAt w pb po pn Z) :
    Calls Tryz.prog 25 #[.slice so n cap, .slice ao pn pc] w fun e w' => (e = .returned (.tuple #[.pointer none, .slice none 0 0, .bool true]) ∧ Below w.heap.size w w') ∨
      (∃ (kb g : Nat) (R : Nat → Int), pn = n ∧ Good T n ∧ PrioB Z n ∧ e = .returned (.tuple #[.pointer (some ⟨kb, 0, none⟩), .slice (some ⟨g, 0, none⟩) n n, .bool true]) ∧ w.heap.size ≤ g ∧ w'.rowIs g 3 n (fun q => .int .i64 (R q)) ∧ (∀ i, i < n → CodeB T Z n i (R i)) ∧
        KSt (fun q => q < w.heap.size ∨ q = g) w' kb (sysOf T Z n) Cad.start ∧ Below w.heap.size w w') := by
  by_cases h0 : n = 0
  · subst h0
    exact (opened_err so ao 0 cap pn pc 1 0 w (by decide) (fun w1 _ => ana_none so cap _ w1) (fun w1 _ => new_none so cap _ w1)).mono (fun e w' hh => .inl hh)
  · obtain ⟨b, off, rfl, hb, hTb⟩ := hT (by omega)
    obtain ⟨x, y, hxy⟩ : ∃ x y, chkR T n = (x, y) := ⟨_, _, rfl⟩
    have hTw : ∀ w1, Below w.heap.size w w1 → TasksAt w1 b off n T ∧ b < w1.heap.size := fun w1 h1 => ⟨TasksAt.below hTb hb h1, by have := h1.size; omega⟩
    by_cases hx : x = 0
    · subst hx
      obtain ⟨hg, hy⟩ := good_of_chk hxy
      subst hy
      by_cases hp : pn = n ∧ PrioB Z n
      · obtain ⟨rfl, hpr⟩ := hp
        obtain ⟨pb, po, rfl, hpb, hZb⟩ := hZ (by omega)
        refine (opened_ok b off pn cap pb po pc T Z w hxy hb hpb hTb hZb hpr).mono (fun e w' hh => .inr ?_)
        obtain ⟨kb, g, R, h1, h2, h3, h4, h5, h6⟩ := hh
        exact ⟨kb, g, R, rfl, hg, hpr, h1, h2, h3, h4, h5, h6⟩
      · have hor : ∀ w1, Below w.heap.size w w1 → (pn ≠ n ∨ ∃ pb po Z', ao = some ⟨pb, po, none⟩ ∧ pn = n ∧ pb < w1.heap.size ∧ IntsAt w1 pb po n Z' ∧ ¬ PrioB Z' n) := fun w1 h1 => by
          by_cases e : pn = n
          · obtain ⟨pb, po, e2, hpb, hZb⟩ := hZ (by omega)
            refine .inr ⟨pb, po, Z, e2, e, by have := h1.size; omega, ?_, fun hq => hp ⟨e, hq⟩⟩
            rw [← e]
            exact IntsAt.below hZb hpb h1
          · exact .inl e
        exact (opened_err _ ao n cap pn pc 4 0 w (by decide) (fun w1 h1 => ana_ord b off n cap ao pn pc T w1 hxy (hTw w1 h1).2 (hTw w1 h1).1 (hor w1 h1)) (fun w1 h1 => new_ord b off n cap ao pn pc T w1 hxy (hTw w1 h1).2 (hTw w1 h1).1 (hor w1 h1))).mono (fun e w' hh => .inl hh)
    · exact (opened_err _ ao n cap pn pc x y w hx (fun w1 h1 => ana_err b off n cap _ T x y w1 hxy hx hm (hTw w1 h1).2 (hTw w1 h1).1) (fun w1 h1 => new_err b off n cap _ T x y w1 hxy hx hm (hTw w1 h1).2 (hTw w1 h1).1)).mono (fun e w' hh => .inl hh)

end Go.Proofs.YtdabcflpcklfiaaGreat

/- Plain mathematics: who holds what; a Lock finds its resource free. -/
namespace Go.Proofs.YtdabcflpcklfiaaGreat.Cad

/-- What is asked of tasks and priorities. -/
structure SyOk (S : Sy) : Prop where
  prog : ∀ t, t < S.n → progB (S.K t) (S.N t) (S.L t) = true
  inj : ∀ a b, a < S.n → b < S.n → S.Z a = S.Z b → a = b
  ceil : ∀ t k, t < S.n → k < S.L t → S.K t k = 2 → S.Z t ≤ S.C (S.N t k).toNat

/-- At place p a job of task t is inside a section of r. -/
def Inside (S : Sy) (t p : Nat) (r : Nat) : Prop := ∃ k e, Closed (S.K t) (S.N t) (r : Int) k e (S.L t) ∧ k < p ∧ p ≤ e

structure LkInv (S : Sy) (m : Mc) : Prop where
  own : ∀ r, r < 8 → m.hold r = -1 ∨ ∃ t, t < S.n ∧ m.hold r = (t : Int)
  iff : ∀ r t, r < 8 → t < S.n → (m.hold r = (t : Int) ↔ ∃ j l, m.q t = j :: l ∧ Inside S t j.p r)
  num : ∀ t, t < S.n → ∀ j ∈ m.q t, ∀ k, k < S.L t → (S.K t k ≠ 1 → j.N k = S.N t k) ∧ (S.K t k = 1 → j.N k ≤ S.N t k)
  rel : ∀ t j l, t < S.n → m.q t = j :: l → 0 < j.p → j.rel ≤ m.now
  rest : ∀ t j l, t < S.n → m.q t = j :: l → ∀ x ∈ l, x.p = 0
  pair : ∀ a b, a < S.n → b < S.n → a ≠ b → (∃ r, r < 8 ∧ m.hold r = (a : Int)) → (∃ r, r < 8 ∧ m.hold r = (b : Int)) → (∀ r, r < 8 → m.hold r = (a : Int) → S.C r < S.Z b) ∨ (∀ r, r < 8 → m.hold r = (b : Int) → S.C r < S.Z a)

theorem setTo_spec (N : Nat → Int) (v : Int) (h : Nat → Int) (p : Nat) : ∀ d r, ((∃ k, p ≤ k ∧ k < p + d ∧ (N k).toNat = r) → setTo N v h p d r = v) ∧ ((¬ ∃ k, p ≤ k ∧ k < p + d ∧ (N k).toNat = r) → setTo N v h p d r = h r)
  | 0, r => ⟨fun ⟨k, h1, h2, _⟩ => by omega, fun _ => rfl⟩
  | d + 1, r => by
    obtain ⟨i1, i2⟩ := setTo_spec N v h p d r
    unfold setTo upd
    by_cases e : r = (N (p + d)).toNat
    · rw [if_pos e]
      exact ⟨fun _ => rfl, fun hn => absurd ⟨p + d, by omega, by omega, e.symm⟩ hn⟩
    · rw [if_neg e]
      refine ⟨fun ⟨k, h1, h2, h3⟩ => i1 ⟨k, h1, ?_, h3⟩, fun hn => i2 (fun ⟨k, h1, h2, h3⟩ => hn ⟨k, h1, by omega, h3⟩)⟩
      rcases Nat.lt_or_ge k (p + d) with g | g
      · exact g
      · have : k = p + d := by omega
        rw [this] at h3
        exact absurd h3.symm e

theorem act_spec (S : Sy) (h : Nat → Int) (t : Nat) : ∀ R, S.Z t ≤ (actTo S h t R).1 ∧ (∀ r, r < R → h r = (t : Int) → S.C r ≤ (actTo S h t R).1) ∧ ((actTo S h t R).1 = S.Z t ∨ ∃ r, r < R ∧ h r = (t : Int) ∧ (actTo S h t R).1 = S.C r) ∧
    ((∃ r, r < R ∧ h r = (t : Int)) → (actTo S h t R).2 = 1) ∧ ((¬ ∃ r, r < R ∧ h r = (t : Int)) → (actTo S h t R).2 = 0 ∧ (actTo S h t R).1 = S.Z t)
  | 0 => ⟨Int.le_refl _, fun r hr => by omega, .inl rfl, fun ⟨r, hr, _⟩ => by omega, fun _ => ⟨rfl, rfl⟩⟩
  | R + 1 => by
    obtain ⟨i1, i2, i3, i4, i5⟩ := act_spec S h t R
    unfold actTo
    by_cases e : h R = (t : Int)
    · rw [if_pos e]
      refine ⟨by show S.Z t ≤ max _ _; omega, fun r hr he => ?_, ?_, fun _ => rfl, fun hn => absurd ⟨R, by omega, e⟩ hn⟩
      · show S.C r ≤ max _ _
        by_cases g : r = R
        · subst g; omega
        · have := i2 r (by omega) he; omega
      · show max _ _ = _ ∨ _
        by_cases g : (actTo S h t R).1 ≤ S.C R
        · exact .inr ⟨R, by omega, e, by show max _ _ = _; omega⟩
        · rcases i3 with h3 | ⟨r, h3, h4, h5⟩
          · exact .inl (by omega)
          · exact .inr ⟨r, by omega, h4, by show max _ _ = _; omega⟩
    · rw [if_neg e]
      refine ⟨i1, fun r hr he => ?_, ?_, fun ⟨r, hr, he⟩ => ?_, fun hn => i5 (fun ⟨r, hr, he⟩ => hn ⟨r, by omega, he⟩)⟩
      · by_cases g : r = R
        · subst g; exact absurd he e
        · exact i2 r (by omega) he
      · rcases i3 with h3 | ⟨r, h3, h4⟩
        · exact .inl h3
        · exact .inr ⟨r, by omega, h4⟩
      · by_cases g : r = R
        · subst g; exact absurd he e
        · exact i4 ⟨r, by omega, he⟩

theorem chTo_max (S : Sy) (m : Mc) : ∀ k a, a < k → readyB m a = true → rank S m.hold a ≤ (chTo S m k).2
  | 0, a, ha, _ => by omega
  | k + 1, a, ha, hr => by
    have ih := chTo_max S m k
    unfold chTo
    by_cases c : readyB m k = true ∧ (chTo S m k).2 < rank S m.hold k
    · rw [if_pos c]
      show _ ≤ rank S m.hold k
      by_cases e : a = k
      · subst e; exact Int.le_refl _
      · have := ih a (by omega) hr; omega
    · rw [if_neg c]
      by_cases e : a = k
      · subst e
        rcases Int.lt_or_le (chTo S m a).2 (rank S m.hold a) with g | g
        · exact absurd ⟨hr, g⟩ c
        · exact g
      · exact ih a (by omega) hr

/-- The chosen one ranks at least as high as each that is ready. -/
theorem chosen_max {S : Sy} {m : Mc} {t a : Nat} (hc : (chTo S m S.n).1 = (t : Int)) (ha : a < S.n) (hr : readyB m a = true) : t < S.n ∧ readyB m t = true ∧ rank S m.hold a ≤ rank S m.hold t := by
  rcases chTo_range S m S.n with ⟨h1, _⟩ | ⟨t', h1, h2, h3, h4⟩
  · rw [h1] at hc; omega
  · have : t' = t := by rw [h2] at hc; omega
    subst this
    exact ⟨h1, h3, by rw [← h4]; exact chTo_max S m S.n a ha hr⟩

/-- Who holds something is ready. -/
theorem LkInv.ready {S : Sy} {m : Mc} (h : LkInv S m) {a : Nat} (ha : a < S.n) (hh : ∃ r, r < 8 ∧ m.hold r = (a : Int)) : readyB m a = true := by
  obtain ⟨r, hr, e⟩ := hh
  obtain ⟨j, l, hq, k, e2, _, hk, _⟩ := (h.iff r a hr ha).1 e
  unfold readyB
  rw [hq]
  simp only [decide_eq_true_eq]
  exact h.rel a j l ha hq (by omega)

/-- Whoever holds r locks it, so its ceiling is at least the task's priority. -/
theorem LkInv.ceil {S : Sy} {m : Mc} (hs : SyOk S) (h : LkInv S m) {a r : Nat} (ha : a < S.n) (hr : r < 8) (e : m.hold r = (a : Int)) : S.Z a ≤ S.C r := by
  obtain ⟨j, l, hq, k, e2, hc, hk, _⟩ := (h.iff r a hr ha).1 e
  have := hs.ceil a k ha (by have := hc.1; have := hc.2.1; omega) hc.2.2.1
  rw [hc.2.2.2.1] at this
  simpa using this

/-- All that others hold has ceilings below the chosen one's priority. -/
theorem chosen_over {S : Sy} {m : Mc} (hs : SyOk S) (h : LkInv S m) {t a : Nat} (hc : (chTo S m S.n).1 = (t : Int)) (ha : a < S.n) (hne : a ≠ t) : ∀ r, r < 8 → m.hold r = (a : Int) → S.C r < S.Z t := by
  intro r hr e
  have hra := h.ready ha ⟨r, hr, e⟩
  obtain ⟨ht, hrt, hle⟩ := chosen_max hc ha hra
  obtain ⟨a1, a2, a3, a4, a5⟩ := act_spec S m.hold a 8
  obtain ⟨t1, t2, t3, t4, t5⟩ := act_spec S m.hold t 8
  have ha2 := a4 ⟨r, hr, e⟩
  have hcr := a2 r hr e
  unfold rank at hle
  by_cases hh : ∃ r, r < 8 ∧ m.hold r = (t : Int)
  · have ht2 := t4 hh
    rcases h.pair a t ha ht hne ⟨r, hr, e⟩ hh with g | g
    · exact g r hr e
    · exfalso
      obtain ⟨r0, hr0, e0⟩ := hh
      have hz := h.ceil hs ht hr0 e0
      have hz2 := g r0 hr0 e0
      rcases t3 with h3 | ⟨r1, h3, h4, h5⟩
      · omega
      · have := g r1 h3 h4
        omega
  · obtain ⟨t6, t7⟩ := t5 hh
    omega

/-- P12: a Lock finds its resource free. -/
theorem lock_free_of {S : Sy} {m : Mc} (hs : SyOk S) (h : LkInv S m) {t k : Nat} (hc : (chTo S m S.n).1 = (t : Int)) (ht : t < S.n) (hk : k < S.L t) (h2 : S.K t k = 2) {r : Nat} (hr : r < 8) (hn : S.N t k = (r : Int)) : m.hold r = -1 ∨ m.hold r = (t : Int) := by
  rcases h.own r hr with g | ⟨a, ha, g⟩
  · exact .inl g
  · by_cases e : a = t
    · subst e; exact .inr g
    · exfalso
      have h1 := chosen_over hs h hc ha e r hr g
      have h3 := hs.ceil t k ht hk h2
      rw [hn] at h3
      have h4 : S.Z t ≤ S.C r := by simpa using h3
      omega

end Go.Proofs.YtdabcflpcklfiaaGreat.Cad

/- Plain mathematics: who holds what, behind a tick and behind an arrival. -/
namespace Go.Proofs.YtdabcflpcklfiaaGreat.Cad

theorem st_some {K N : Nat → Int} {L e : Nat} (h : progB K N L = true) (he : e ≤ L) : ∃ s, stTo K N e = some s := by
  simp only [progB, decide_eq_true_eq] at h
  cases hs : stTo K N e with
  | some s => exact ⟨s, rfl⟩
  | none =>
    have := stTo_none K N e L he hs
    rw [h.2.2.2] at this
    cases this

/-- An Unlock ends a section. -/
theorem unlock_closed {K N : Nat → Int} {L e : Nat} (h : progB K N L = true) (he : e < L) (h3 : K e = 3) : ∃ k, Closed K N (N e) k e L := by
  obtain ⟨s, hs⟩ := st_some h (Nat.le_of_lt he)
  obtain ⟨s', hs'⟩ := st_some h (show e + 1 ≤ L from he)
  have hI := prog_inv K N e s hs
  simp only [stTo, hs, Option.bind_some] at hs'
  have hl : s.getLast? = some (N e) := by
    unfold stepF at hs'
    rw [if_neg (by omega), if_neg (by omega), if_pos h3] at hs'
    split at hs'
    · rename_i c; exact c.2
    · cases hs'
  have hmem : N e ∈ s := List.mem_of_getLast? hl
  obtain ⟨k, h1, h2, h4, _, h5, _⟩ := hI.held _ hmem
  exact ⟨k, h1, he, h2, h4, h3, rfl, fun t a b => h5 t a b⟩

theorem lock_closed {K N : Nat → Int} {L k : Nat} (h : progB K N L = true) (hk : k < L) (h2 : K k = 2) : ∃ e, Closed K N (N k) k e L := by
  obtain ⟨_, _, _, I⟩ := progB_inv h
  rcases I.locks (N k) k hk h2 rfl with ⟨e, hc, _⟩ | ⟨hr, _⟩
  · exact ⟨e, hc⟩
  · cases hr

theorem inside_lock {S : Sy} {t p p1 r : Nat} (hp : progB (S.K t) (S.N t) (S.L t) = true) (h1 : p ≤ p1) (h2 : p1 ≤ S.L t) (hl : ∀ k, p ≤ k → k < p1 → S.K t k = 2) :
    Inside S t p1 r ↔ (Inside S t p r ∨ ∃ k, p ≤ k ∧ k < p1 ∧ S.N t k = (r : Int)) := by
  constructor
  · rintro ⟨k, e, hc, hk, he⟩
    rcases Nat.lt_or_ge k p with g | g
    · exact .inl ⟨k, e, hc, g, by omega⟩
    · exact .inr ⟨k, g, hk, hc.2.2.2.1⟩
  · have hout : ∀ e, S.K t e = 3 → p ≤ e → p1 ≤ e := fun e h3 hpe => by
      rcases Nat.lt_or_ge e p1 with g | g
      · have := hl e hpe g; omega
      · exact g
    rintro (⟨k, e, hc, hk, he⟩ | ⟨k, hk1, hk2, hn⟩)
    · exact ⟨k, e, hc, by omega, hout e hc.2.2.2.2.1 he⟩
    · obtain ⟨e, hc⟩ := lock_closed hp (show k < S.L t by omega) (hl k hk1 hk2)
      rw [hn] at hc
      exact ⟨k, e, hc, hk2, hout e hc.2.2.2.2.1 (by have := hc.1; omega)⟩

theorem inside_unlock {S : Sy} {t p1 p2 r : Nat} (h1 : S.K t p1 = 1) (h2 : p1 + 1 ≤ p2) (hl : ∀ k, p1 + 1 ≤ k → k < p2 → S.K t k = 3) :
    Inside S t p2 r ↔ (Inside S t p1 r ∧ ¬ ∃ k, p1 + 1 ≤ k ∧ k < p2 ∧ S.N t k = (r : Int)) := by
  constructor
  · rintro ⟨k, e, hc, hk, he⟩
    have hkp : k < p1 := by
      rcases Nat.lt_or_ge k p1 with g | g
      · exact g
      · exfalso
        have h2k := hc.2.2.1
        by_cases e1 : k = p1
        · rw [e1] at h2k; omega
        · have := hl k (by omega) hk; omega
    refine ⟨⟨k, e, hc, hkp, by omega⟩, fun ⟨q, q1, q2, q3⟩ => ?_⟩
    have := hl q q1 q2
    by_cases e1 : q = e
    · omega
    · exact hc.2.2.2.2.2.2 q (by omega) (by omega) ⟨this, q3⟩
  · rintro ⟨⟨k, e, hc, hk, he⟩, hn⟩
    refine ⟨k, e, hc, by omega, ?_⟩
    rcases Nat.lt_or_ge e p2 with g | g
    · exfalso
      have h3 := hc.2.2.2.2.1
      by_cases e1 : e = p1
      · rw [e1] at h3; omega
      · exact hn ⟨e, by omega, g, hc.2.2.2.2.2.1⟩
    · exact g

/-- Who holds what behind a job's tick. -/
theorem run_hold {S : Sy} {t : Nat} {h : Nat → Int} {j : Jb} (hp : progB (S.K t) (S.N t) (S.L t) = true) (hj : JbOk (S.K t) (S.L t) j) (hnum : ∀ k, k < S.L t → S.K t k ≠ 1 → j.N k = S.N t k)
    {r : Nat} (hiff : h r = (t : Int) ↔ Inside S t j.p r) (hfree : ∀ k, k < S.L t → S.K t k = 2 → S.N t k = (r : Int) → h r = -1 ∨ h r = (t : Int)) :
    ((runK (S.K t) (S.L t) t h j).1 r = (t : Int) ↔ Inside S t (runK (S.K t) (S.L t) t h j).2.p r) ∧ (∀ a : Nat, a ≠ t → ((runK (S.K t) (S.L t) t h j).1 r = (a : Int) ↔ h r = (a : Int))) ∧
    ((runK (S.K t) (S.L t) t h j).1 r = -1 ∨ (runK (S.K t) (S.L t) t h j).1 r = (t : Int) ∨ (runK (S.K t) (S.L t) t h j).1 r = h r) := by
  obtain ⟨p1, hp1⟩ : ∃ p1, p1 = skip (S.K t) 2 (S.L t) j.p := ⟨_, rfl⟩
  have hsp := skip_spec (S.K t) 2 (L := S.L t) (p := j.p) (by have := hj.lt; omega)
  have hsl := skipLt hj
  rw [← hp1] at hsp hsl
  have hin1 := inside_lock (r := r) hp hsp.1 hsp.2.1 hsp.2.2.1
  have htoN : ∀ k, k < S.L t → S.K t k ≠ 1 → ((j.N k).toNat = r ↔ S.N t k = (r : Int)) := fun k hk h1 => by
    have := (progB_inv hp).2.2.2.steps k hk
    rw [hnum k hk h1]
    rcases this with g | g | g
    · exact absurd g.1 h1
    · omega
    · omega
  have hA : (∃ k, j.p ≤ k ∧ k < j.p + (p1 - j.p) ∧ (j.N k).toNat = r) ↔ ∃ k, j.p ≤ k ∧ k < p1 ∧ S.N t k = (r : Int) := by
    constructor
    · rintro ⟨k, a, b, c⟩
      exact ⟨k, a, by omega, (htoN k (by omega) (by rw [hsp.2.2.1 k a (by omega)]; decide)).1 c⟩
    · rintro ⟨k, a, b, c⟩
      exact ⟨k, a, by omega, (htoN k (by omega) (by rw [hsp.2.2.1 k a b]; decide)).2 c⟩
  obtain ⟨s1, s2⟩ := setTo_spec j.N (t : Int) h j.p (p1 - j.p) r
  obtain ⟨h1, hh1⟩ : ∃ h1, h1 = setTo j.N (t : Int) h j.p (p1 - j.p) := ⟨_, rfl⟩
  rw [← hh1] at s1 s2
  -- behind the Locks
  have k1 : (h1 r = (t : Int) ↔ Inside S t p1 r) ∧ (∀ a : Nat, a ≠ t → (h1 r = (a : Int) ↔ h r = (a : Int))) ∧ (h1 r = (t : Int) ∨ h1 r = h r) := by
    by_cases c : ∃ k, j.p ≤ k ∧ k < p1 ∧ S.N t k = (r : Int)
    · have e := s1 (hA.2 c)
      refine ⟨⟨fun _ => hin1.2 (.inr c), fun _ => e⟩, fun a ha => ?_, .inl e⟩
      obtain ⟨k, c1, c2, c3⟩ := c
      have hf := hfree k (by omega) (hsp.2.2.1 k c1 c2) c3
      rw [e]
      constructor
      · intro g; omega
      · intro g; rcases hf with f | f <;> omega
    · have e := s2 (fun g => c (hA.1 g))
      rw [e]
      exact ⟨⟨fun g => hin1.2 (.inl (hiff.1 g)), fun g => by rcases hin1.1 g with g1 | g1; exact hiff.2 g1; exact absurd g1 c⟩, fun a _ => Iff.rfl, .inr rfl⟩
  unfold runK
  simp only []
  rw [← hp1, ← hh1]
  by_cases hx : 0 < j.N p1 - 1
  · rw [if_pos hx]
    exact ⟨k1.1, k1.2.1, by rcases k1.2.2 with g | g; exact .inr (.inl g); exact .inr (.inr g)⟩
  · rw [if_neg hx]
    obtain ⟨p2, hp2⟩ : ∃ p2, p2 = skip (S.K t) 3 (S.L t) (p1 + 1) := ⟨_, rfl⟩
    have hs2 := skip_spec (S.K t) 3 (L := S.L t) (p := p1 + 1) (by omega)
    rw [← hp2] at hs2 ⊢
    have hin2 := inside_unlock (S := S) (t := t) (r := r) hsl.2 hs2.1 hs2.2.2.1
    have hU : (∃ k, p1 + 1 ≤ k ∧ k < p1 + 1 + (p2 - (p1 + 1)) ∧ (j.N k).toNat = r) ↔ ∃ k, p1 + 1 ≤ k ∧ k < p2 ∧ S.N t k = (r : Int) := by
      constructor
      · rintro ⟨k, a, b, c⟩
        exact ⟨k, a, by omega, (htoN k (by omega) (by rw [hs2.2.2.1 k a (by omega)]; decide)).1 c⟩
      · rintro ⟨k, a, b, c⟩
        exact ⟨k, a, by omega, (htoN k (by omega) (by rw [hs2.2.2.1 k a b]; decide)).2 c⟩
    obtain ⟨u1, u2⟩ := setTo_spec j.N (-1) h1 (p1 + 1) (p2 - (p1 + 1)) r
    show (setTo j.N (-1) h1 (p1 + 1) (p2 - (p1 + 1)) r = (t : Int) ↔ Inside S t p2 r) ∧ (∀ a : Nat, a ≠ t → (setTo j.N (-1) h1 (p1 + 1) (p2 - (p1 + 1)) r = (a : Int) ↔ h r = (a : Int))) ∧ (setTo j.N (-1) h1 (p1 + 1) (p2 - (p1 + 1)) r = -1 ∨ setTo j.N (-1) h1 (p1 + 1) (p2 - (p1 + 1)) r = (t : Int) ∨ setTo j.N (-1) h1 (p1 + 1) (p2 - (p1 + 1)) r = h r)
    by_cases c : ∃ k, p1 + 1 ≤ k ∧ k < p2 ∧ S.N t k = (r : Int)
    · have e := u1 (hU.2 c)
      rw [e]
      refine ⟨⟨fun g => by omega, fun g => absurd c (hin2.1 g).2⟩, fun a ha => ?_, .inl rfl⟩
      constructor
      · intro g; omega
      · intro g
        exfalso
        obtain ⟨k, c1, c2, c3⟩ := c
        obtain ⟨k0, hc0⟩ := unlock_closed hp (show k < S.L t by omega) (hs2.2.2.1 k c1 c2)
        rw [c3] at hc0
        have hk0 : k0 < p1 := by
          rcases Nat.lt_or_ge k0 p1 with g1 | g1
          · exact g1
          · exfalso
            have h2k := hc0.2.2.1
            have hlt := hc0.1
            by_cases e1 : k0 = p1
            · rw [e1] at h2k; omega
            · have := hs2.2.2.1 k0 (by omega) (by omega); omega
        have hi1 : Inside S t p1 r := ⟨k0, k, hc0, hk0, by omega⟩
        have g2 := k1.1.2 hi1
        have g3 := (k1.2.1 a ha).2 g
        omega
    · have e := u2 (fun g => c (hU.1 g))
      rw [e]
      exact ⟨⟨fun g => hin2.2 ⟨k1.1.1 g, c⟩, fun g => k1.1.2 (hin2.1 g).1⟩, k1.2.1, by rcases k1.2.2 with g | g; exact .inr (.inl g); exact .inr (.inr g)⟩

end Go.Proofs.YtdabcflpcklfiaaGreat.Cad

/- Plain mathematics: the invariant of the locks is kept. -/
namespace Go.Proofs.YtdabcflpcklfiaaGreat.Cad

theorem inside_zero {S : Sy} {t r : Nat} : ¬ Inside S t 0 r := fun ⟨k, e, _, hk, _⟩ => by omega
theorem inside_end {S : Sy} {t r : Nat} : ¬ Inside S t (S.L t) r := fun ⟨k, e, hc, _, he⟩ => by have := hc.2.1; omega

theorem lk_start (S : Sy) : LkInv S start := by
  refine ⟨fun r _ => .inl rfl, fun r t _ _ => ⟨fun h => by have : (-1 : Int) = (t : Int) := h; omega, fun ⟨j, l, h, _⟩ => by simp [start] at h⟩, fun t _ j hj => by simp [start] at hj, fun t j l _ h => by simp [start] at h, fun t j l _ h => by simp [start] at h, fun a b _ _ _ ⟨r, _, h⟩ => by have : (-1 : Int) = (a : Int) := h; omega⟩

theorem lk_later {S : Sy} {m : Mc} (h : LkInv S m) (x y : Int) (hx : m.now ≤ x) : LkInv S { m with now := x, idle := y } :=
  ⟨h.own, h.iff, h.num, fun t j l ht hq hp => by have := h.rel t j l ht hq hp; show j.rel ≤ x; omega, h.rest, h.pair⟩

theorem lk_tickAt {S : Sy} {m : Mc} (hs : SyOk S) (ho : Ok S m) (h : LkInv S m) {t : Nat} {j : Jb} {l : List Jb} (ht : t < S.n) (hq : m.q t = j :: l) (hrel : j.rel ≤ m.now) (hc : (chTo S m S.n).1 = (t : Int)) : LkInv S (tickAt S m t j l).1 := by
  have hj := (ho.job t ht j (by rw [hq]; simp)).1
  have hp := hs.prog t ht
  have hnumj := h.num t ht j (by rw [hq]; simp)
  have hrun : ∀ r, r < 8 → _ := fun r hr => run_hold (h := m.hold) (r := r) hp hj (fun k hk h1 => (hnumj k hk).1 h1)
    ⟨fun e => by
      obtain ⟨j', l', hq', hi⟩ := (h.iff r t hr ht).1 e
      rw [hq] at hq'
      cases hq'
      exact hi, fun hi => (h.iff r t hr ht).2 ⟨j, l, hq, hi⟩⟩
    (fun k hk h2 hn => lock_free_of hs h hc ht hk h2 hr hn)
  obtain ⟨k1, k2, k3, k4, k5, k6, k7⟩ := runK_ok (t := t) (h := m.hold) hj
  -- the job's numbers behind the tick
  have hnum' : ∀ k, k < S.L t → (S.K t k ≠ 1 → (runK (S.K t) (S.L t) t m.hold j).2.N k = S.N t k) ∧ (S.K t k = 1 → (runK (S.K t) (S.L t) t m.hold j).2.N k ≤ S.N t k) := fun k hk => by
    have hsl := skipLt hj
    have hN : (runK (S.K t) (S.L t) t m.hold j).2.N = upd j.N (skip (S.K t) 2 (S.L t) j.p) (j.N (skip (S.K t) 2 (S.L t) j.p) - 1) := by
      unfold runK
      simp only []
      split <;> rfl
    rw [hN]
    by_cases e : k = skip (S.K t) 2 (S.L t) j.p
    · rw [e, upd_same]
      exact ⟨fun h1 => absurd hsl.2 h1, fun h1 => by have := (hnumj _ hsl.1).2 hsl.2; omega⟩
    · rw [upd_other _ _ e]
      exact hnumj k hk
  have hover : ∀ a, a < S.n → a ≠ t → ∀ r, r < 8 → m.hold r = (a : Int) → S.C r < S.Z t := fun a ha hne => chosen_over hs h hc ha hne
  have hpair : ∀ a b, a < S.n → b < S.n → a ≠ b → (∃ r, r < 8 ∧ (runK (S.K t) (S.L t) t m.hold j).1 r = (a : Int)) → (∃ r, r < 8 ∧ (runK (S.K t) (S.L t) t m.hold j).1 r = (b : Int)) →
      (∀ r, r < 8 → (runK (S.K t) (S.L t) t m.hold j).1 r = (a : Int) → S.C r < S.Z b) ∨ (∀ r, r < 8 → (runK (S.K t) (S.L t) t m.hold j).1 r = (b : Int) → S.C r < S.Z a) := fun a b ha hb hab hxa hxb => by
    by_cases ea : a = t
    · subst ea
      exact .inr (fun r hr e => hover b hb (fun e => hab e.symm) r hr (((hrun r hr).2.1 b (fun e => hab e.symm)).1 e))
    · by_cases eb : b = t
      · subst eb
        exact .inl (fun r hr e => hover a ha ea r hr (((hrun r hr).2.1 a ea).1 e))
      · obtain ⟨ra, hra, eea⟩ := hxa
        obtain ⟨rb, hrb, eeb⟩ := hxb
        rcases h.pair a b ha hb hab ⟨ra, hra, ((hrun ra hra).2.1 a ea).1 eea⟩ ⟨rb, hrb, ((hrun rb hrb).2.1 b eb).1 eeb⟩ with g | g
        · exact .inl (fun r hr e => g r hr (((hrun r hr).2.1 a ea).1 e))
        · exact .inr (fun r hr e => g r hr (((hrun r hr).2.1 b eb).1 e))
  have hown : ∀ r, r < 8 → (runK (S.K t) (S.L t) t m.hold j).1 r = -1 ∨ ∃ a, a < S.n ∧ (runK (S.K t) (S.L t) t m.hold j).1 r = (a : Int) := fun r hr => by
    rcases (hrun r hr).2.2 with g | g | g
    · exact .inl g
    · exact .inr ⟨t, ht, g⟩
    · rw [g]; exact h.own r hr
  by_cases hpl : (runK (S.K t) (S.L t) t m.hold j).2.p < S.L t
  · have e : tickAt S m t j l = ({ m with now := m.now + 1, hold := (runK (S.K t) (S.L t) t m.hold j).1, q := upd m.q t ((runK (S.K t) (S.L t) t m.hold j).2 :: l) }, false) := by
      unfold tickAt
      exact if_pos hpl
    rw [e]
    refine ⟨hown, fun r a hr ha => ?_, fun a ha x hx => ?_, fun a x y ha hqa hxp => ?_, fun a x y ha hqa => ?_, hpair⟩
    · show (runK (S.K t) (S.L t) t m.hold j).1 r = (a : Int) ↔ ∃ x y, upd m.q t ((runK (S.K t) (S.L t) t m.hold j).2 :: l) a = x :: y ∧ Inside S a x.p r
      by_cases ea : a = t
      · subst ea
        rw [upd_same]
        rw [(hrun r hr).1]
        exact ⟨fun g => ⟨_, _, rfl, g⟩, fun ⟨x, y, e1, e2⟩ => by cases e1; exact e2⟩
      · rw [upd_other _ _ ea, (hrun r hr).2.1 a ea]
        exact h.iff r a hr ha
    · have hx' : x ∈ upd m.q t ((runK (S.K t) (S.L t) t m.hold j).2 :: l) a := hx
      by_cases ea : a = t
      · subst ea
        rw [upd_same] at hx'
        rcases List.mem_cons.1 hx' with rfl | hx2
        · exact hnum'
        · exact h.num a ha x (by rw [hq]; simp [hx2])
      · rw [upd_other _ _ ea] at hx'
        exact h.num a ha x hx'
    · have hqa' : upd m.q t ((runK (S.K t) (S.L t) t m.hold j).2 :: l) a = x :: y := hqa
      show x.rel ≤ m.now + 1
      by_cases ea : a = t
      · subst ea
        rw [upd_same] at hqa'
        cases hqa'
        rw [k5]; omega
      · rw [upd_other _ _ ea] at hqa'
        have := h.rel a x y ha hqa' hxp
        omega
    · have hqa' : upd m.q t ((runK (S.K t) (S.L t) t m.hold j).2 :: l) a = x :: y := hqa
      by_cases ea : a = t
      · subst ea
        rw [upd_same] at hqa'
        cases hqa'
        exact h.rest a j l ha hq
      · rw [upd_other _ _ ea] at hqa'
        exact h.rest a x y ha hqa'
  · have hpe : (runK (S.K t) (S.L t) t m.hold j).2.p = S.L t := by omega
    have e : tickAt S m t j l = ({ m with now := m.now + 1, hold := (runK (S.K t) (S.L t) t m.hold j).1, q := upd m.q t l, done := upd m.done t (m.done t + 1), kept := keep m.kept ⟨t, j.arr, j.rel, m.now + 1, (runK (S.K t) (S.L t) t m.hold j).2.left, j.ord⟩ }, true) := by
      unfold tickAt
      exact if_neg hpl
    rw [e]
    have hl0 := h.rest t j l ht hq
    refine ⟨hown, fun r a hr ha => ?_, fun a ha x hx => ?_, fun a x y ha hqa hxp => ?_, fun a x y ha hqa => ?_, hpair⟩
    · show (runK (S.K t) (S.L t) t m.hold j).1 r = (a : Int) ↔ ∃ x y, upd m.q t l a = x :: y ∧ Inside S a x.p r
      by_cases ea : a = t
      · subst ea
        rw [upd_same, (hrun r hr).1, hpe]
        constructor
        · intro g; exact absurd g inside_end
        · rintro ⟨x, y, e1, e2⟩
          rw [hl0 x (by rw [e1]; simp)] at e2
          exact absurd e2 inside_zero
      · rw [upd_other _ _ ea, (hrun r hr).2.1 a ea]
        exact h.iff r a hr ha
    · have hx' : x ∈ upd m.q t l a := hx
      by_cases ea : a = t
      · subst ea
        rw [upd_same] at hx'
        exact h.num a ha x (by rw [hq]; simp [hx'])
      · rw [upd_other _ _ ea] at hx'
        exact h.num a ha x hx'
    · have hqa' : upd m.q t l a = x :: y := hqa
      show x.rel ≤ m.now + 1
      by_cases ea : a = t
      · subst ea
        rw [upd_same] at hqa'
        have := hl0 x (by rw [hqa']; simp)
        omega
      · rw [upd_other _ _ ea] at hqa'
        have := h.rel a x y ha hqa' hxp
        omega
    · have hqa' : upd m.q t l a = x :: y := hqa
      by_cases ea : a = t
      · subst ea
        rw [upd_same] at hqa'
        exact fun z hz => hl0 z (by rw [hqa']; simp [hz])
      · rw [upd_other _ _ ea] at hqa'
        exact h.rest a x y ha hqa'

theorem lk_tick {S : Sy} {m : Mc} (hs : SyOk S) (ho : Ok S m) (h : LkInv S m) : LkInv S (tick S m).1 := by
  rcases tick_cases S m with ⟨_, e⟩ | ⟨t, j, l, ht, hq, hr, hc, e⟩
  · rw [e]; exact lk_later h _ _ (by omega)
  · rw [e]; exact lk_tickAt hs ho h ht hq hr hc

theorem lk_added {S : Sy} {m : Mc} (h : LkInv S m) {t : Nat} (ht : t < S.n) {jit : Int} {D : Nat → Int} {d : Nat} (hf : Fits (S.K t) (S.N t) (S.L t) D d) : LkInv S (added S m t jit D) := by
  have hnew : (jobOf S m t jit D).p = 0 := rfl
  refine ⟨h.own, fun r a hr ha => ?_, fun a ha x hx => ?_, fun a x y ha hqa hxp => ?_, fun a x y ha hqa => ?_, h.pair⟩
  · show m.hold r = (a : Int) ↔ ∃ x y, upd m.q t (m.q t ++ [jobOf S m t jit D]) a = x :: y ∧ Inside S a x.p r
    by_cases ea : a = t
    · subst ea
      rw [upd_same, h.iff r a hr ha]
      cases hq : m.q a with
      | nil =>
        constructor
        · rintro ⟨x, y, e1, _⟩; cases e1
        · rintro ⟨x, y, e1, e2⟩
          simp at e1
          rw [← e1.1, hnew] at e2
          exact absurd e2 inside_zero
      | cons j l =>
        constructor
        · rintro ⟨x, y, e1, e2⟩
          cases e1
          exact ⟨_, _, rfl, e2⟩
        · rintro ⟨x, y, e1, e2⟩
          simp at e1
          rw [← e1.1] at e2
          exact ⟨_, _, rfl, e2⟩
    · rw [upd_other _ _ ea]
      exact h.iff r a hr ha
  · have hx' : x ∈ upd m.q t (m.q t ++ [jobOf S m t jit D]) a := hx
    by_cases ea : a = t
    · subst ea
      rw [upd_same] at hx'
      rcases List.mem_append.1 hx' with g | g
      · exact h.num a ha x g
      · have : x = jobOf S m a jit D := by simpa using g
        subst this
        intro k hk
        show (_ → numOf _ _ _ k = _) ∧ (_ → numOf _ _ _ k ≤ _)
        unfold numOf
        exact ⟨fun h1 => by rw [if_neg h1], fun h1 => by rw [if_pos h1]; exact (hf.1 k hk h1).2.2⟩
    · rw [upd_other _ _ ea] at hx'
      exact h.num a ha x hx'
  · have hqa' : upd m.q t (m.q t ++ [jobOf S m t jit D]) a = x :: y := hqa
    show x.rel ≤ m.now
    by_cases ea : a = t
    · subst ea
      rw [upd_same] at hqa'
      cases hq : m.q a with
      | nil =>
        rw [hq] at hqa'
        simp at hqa'
        rw [← hqa'.1, hnew] at hxp
        omega
      | cons j l =>
        rw [hq] at hqa'
        simp at hqa'
        rw [← hqa'.1] at hxp ⊢
        exact h.rel a j l ha hq hxp
    · rw [upd_other _ _ ea] at hqa'
      exact h.rel a x y ha hqa' hxp
  · have hqa' : upd m.q t (m.q t ++ [jobOf S m t jit D]) a = x :: y := hqa
    by_cases ea : a = t
    · subst ea
      rw [upd_same] at hqa'
      cases hq : m.q a with
      | nil =>
        rw [hq] at hqa'
        simp at hqa'
        rw [hqa'.2]
        intro z hz; cases hz
      | cons j l =>
        rw [hq] at hqa'
        simp at hqa'
        rw [← hqa'.2]
        intro z hz
        rcases List.mem_append.1 hz with g | g
        · exact h.rest a j l ha hq z g
        · have : z = jobOf S m a jit D := by simpa using g
          rw [this]
          rfl
    · rw [upd_other _ _ ea] at hqa'
      exact h.rest a x y ha hqa'

end Go.Proofs.YtdabcflpcklfiaaGreat.Cad

/- Plain mathematics: what a level's busy time is made of. -/
namespace Go.Proofs.YtdabcflpcklfiaaGreat.Cad

/-! ### sections within sections -/

/-- As long as r is not unlocked, what was held when it was locked lies beneath it. -/
theorem st_above {K N : Nat → Int} {L k : Nat} {h : List Int} (hp : progB K N L = true) (hk : stTo K N k = some h) (h2 : K k = 2) : ∀ d, k + 1 + d ≤ L → (∀ t, k < t → t < k + 1 + d → ¬ (K t = 3 ∧ N t = N k)) → ∃ u, stTo K N (k + 1 + d) = some (h ++ [N k] ++ u)
  | 0, hl, _ => by
    obtain ⟨s, hs⟩ := st_some hp (show k + 1 ≤ L by omega)
    have hs2 := hs
    simp only [stTo, hk, Option.bind_some] at hs
    unfold stepF at hs
    rw [if_neg (by omega), if_pos h2] at hs
    split at hs
    · cases hs
      exact ⟨[], by rw [Nat.add_zero, hs2]; simp⟩
    · cases hs
  | d + 1, hl, hn => by
    obtain ⟨u, hu⟩ := st_above hp hk h2 d (by omega) (fun t a b => hn t a (by omega))
    obtain ⟨s, hs⟩ := st_some hp (show k + 1 + (d + 1) ≤ L by omega)
    have hs2 := hs
    rw [show k + 1 + (d + 1) = (k + 1 + d) + 1 from by omega] at hs
    simp only [stTo, hu, Option.bind_some] at hs
    rw [hs2]
    unfold stepF at hs
    split at hs
    · split at hs
      · cases hs; exact ⟨u, rfl⟩
      · cases hs
    · split at hs
      · split at hs
        · cases hs
          exact ⟨u ++ [N (k + 1 + d)], by simp⟩
        · cases hs
      · split at hs
        · rename_i h3
          split at hs
          · rename_i c
            cases hs
            cases hu' : u with
            | nil =>
              exfalso
              rw [hu'] at c
              have : N k = N (k + 1 + d) := by simpa using c.2
              exact hn (k + 1 + d) (by omega) (by omega) ⟨h3, this.symm⟩
            | cons x y =>
              refine ⟨(x :: y).dropLast, ?_⟩
              congr 1
              rw [List.dropLast_append_of_ne_nil (by simp)]
          · cases hs
        · cases hs

theorem nest {K N : Nat → Int} {L k e k' e' : Nat} {r r' : Int} (hp : progB K N L = true) (hc : Closed K N r k e L) (hc' : Closed K N r' k' e' L) (h1 : k < k') (h2 : k' < e) : e' ≤ e := by
  rcases Nat.lt_or_ge e e' with g | g
  · exfalso
    obtain ⟨a1, a2, a3, a4, a5, a6, a7⟩ := hc
    obtain ⟨b1, b2, b3, b4, b5, b6, b7⟩ := hc'
    obtain ⟨s, hs⟩ := st_some hp (show k ≤ L by omega)
    obtain ⟨u, hu⟩ := st_above hp hs a3 (k' - (k + 1)) (by omega) (fun t x y => by rw [a4]; exact a7 t x (by omega))
    rw [show k + 1 + (k' - (k + 1)) = k' from by omega] at hu
    obtain ⟨v, hv⟩ := st_above hp hu b3 (e - (k' + 1)) (by omega) (fun t x y => by rw [b4]; exact b7 t x (by omega))
    rw [show k' + 1 + (e - (k' + 1)) = e from by omega] at hv
    obtain ⟨z, hz⟩ := st_some hp (show e + 1 ≤ L by omega)
    simp only [stTo, hv, Option.bind_some] at hz
    unfold stepF at hz
    rw [if_neg (by omega), if_neg (by omega), if_pos a5] at hz
    split at hz
    · rename_i c
      have hnd := (prog_inv K N e _ hv).nodup
      have hl : (s ++ [N k] ++ u ++ [N k'] ++ v).getLast? = some (N e) := c.2
      have hmem : N e ∈ ([N k'] ++ v) := by
        have e1 : s ++ [N k] ++ u ++ [N k'] ++ v = (s ++ [N k] ++ u) ++ ([N k'] ++ v) := by simp
        rw [e1, List.getLast?_append] at hl
        cases hq : ([N k'] ++ v).getLast? with
        | none => simp at hq
        | some q =>
          rw [hq] at hl
          have hqe : q = N e := by simpa using hl
          rw [← hqe]
          exact List.mem_of_getLast? hq
      have hke : N k = N e := by rw [a4, a6]
      rw [← hke] at hmem
      have e2 : s ++ [N k] ++ u ++ [N k'] ++ v = (s ++ [N k]) ++ (u ++ ([N k'] ++ v)) := by simp
      rw [e2] at hnd
      have hdis := (List.nodup_append.1 hnd).2.2
      exact hdis (N k) (by simp) (N k) (by simp only [List.mem_append]; exact .inr (List.mem_append.1 hmem)) rfl
    · cases hz
  · exact g

/-! ### what is left -/

theorem dem_le {K N N' : Nat → Int} {a : Nat} : ∀ d, (∀ i, a ≤ i → i < a + d → K i = 1 → N' i ≤ N i) → demTo K N' (a + d) - demTo K N' a ≤ demTo K N (a + d) - demTo K N a
  | 0, _ => by simp
  | d + 1, h => by
    have ih := dem_le (K := K) (N := N) (N' := N') d (fun i h1 h2 => h i h1 (by omega))
    rw [← Nat.add_assoc, demTo, demTo]
    by_cases e : K (a + d) = 1
    · have := h (a + d) (by omega) (by omega) e
      rw [if_pos e, if_pos e]
      omega
    · rw [if_neg e, if_neg e]
      omega

theorem left_pos {K : Nat → Int} {L : Nat} {j : Jb} (h : JbOk K L j) : 1 ≤ j.left := by
  have h1 := h.lt
  obtain ⟨d, hd⟩ : ∃ d, L = j.p + d + 1 := ⟨L - j.p - 1, by omega⟩
  have h2 := (dem_diff (K := K) (N := j.N) (a := j.p) d (fun i a b => h.comp i a (by omega))).1
  have h3 : demTo K j.N L = demTo K j.N (j.p + d) + j.N (j.p + d) := by
    rw [hd, demTo]
    have : K (j.p + d) = 1 := by have := h.last; rw [hd] at this; simpa using this
    rw [if_pos this]
  have h4 : K (j.p + d) = 1 := by have := h.last; rw [hd] at this; simpa using this
  have h5 := h.comp (j.p + d) (by omega) (by omega) h4
  rw [h.left, h3]
  omega

theorem left_le {S : Sy} {t : Nat} {j : Jb} (hp : progB (S.K t) (S.N t) (S.L t) = true) (h : JbOk (S.K t) (S.L t) j) (hn : ∀ k, k < S.L t → S.K t k = 1 → j.N k ≤ S.N t k) : j.left ≤ demTo (S.K t) (S.N t) (S.L t) := by
  obtain ⟨d, hd⟩ : ∃ d, S.L t = j.p + d := ⟨S.L t - j.p, by have := h.lt; omega⟩
  have h1 := dem_le (K := S.K t) (N := S.N t) (N' := j.N) (a := j.p) d (fun i _ b => hn i (by omega))
  have h2 := demTo_mono (progB_inv hp).2.2.2.steps 0 j.p (by omega) (by have := h.lt; omega)
  have h0 : demTo (S.K t) (S.N t) 0 = 0 := rfl
  rw [h.left, hd]
  omega

/-- What is left of a section is no more than its length. -/
theorem rem_le {S : Sy} {t r k e : Nat} {j : Jb} (hp : progB (S.K t) (S.N t) (S.L t) = true) (hn : ∀ k, k < S.L t → S.K t k = 1 → j.N k ≤ S.N t k) (hc : Closed (S.K t) (S.N t) (r : Int) k e (S.L t)) (hk : k < j.p) (he : j.p ≤ e) :
    demTo (S.K t) j.N e - demTo (S.K t) j.N j.p ≤ lonTo (S.K t) (S.N t) (r : Int) (S.L t) := by
  obtain ⟨_, _, _, I⟩ := progB_inv hp
  obtain ⟨d, hd⟩ : ∃ d, e = j.p + d := ⟨e - j.p, by omega⟩
  have hel := hc.2.1
  have h1 := dem_le (K := S.K t) (N := S.N t) (N' := j.N) (a := j.p) d (fun i _ b => hn i (by omega))
  have h2 := demTo_mono I.steps k j.p (by omega) (by omega)
  rcases I.locks (r : Int) k (by omega) hc.2.2.1 hc.2.2.2.1 with ⟨e2, hc2, hle⟩ | ⟨hr, _⟩
  · have : e2 = e := by
      rcases Nat.lt_trichotomy e2 e with g | g | g
      · exact absurd ⟨hc2.2.2.2.2.1, hc2.2.2.2.2.2.1⟩ (hc.2.2.2.2.2.2 e2 hc2.1 g)
      · exact g
      · exact absurd ⟨hc.2.2.2.2.1, hc.2.2.2.2.2.1⟩ (hc2.2.2.2.2.2.2 e hc.1 g)
    subst this
    rw [← hd] at h1
    omega
  · cases hr

/-! ### sums -/

def sumTo (f : Nat → Int) : Nat → Int
  | 0 => 0
  | k + 1 => sumTo f k + f k

theorem sumTo_le {f g : Nat → Int} : ∀ n, (∀ j, j < n → f j ≤ g j) → sumTo f n ≤ sumTo g n
  | 0, _ => Int.le_refl _
  | n + 1, h => by
    have := sumTo_le n (fun j hj => h j (by omega))
    have := h n (by omega)
    unfold sumTo
    omega

theorem sumTo_bump {f g : Nat → Int} {t : Nat} : ∀ n, t < n → (∀ j, j < n → j ≠ t → g j = f j) → g t = f t + 1 → sumTo g n = sumTo f n + 1
  | 0, h, _, _ => by omega
  | n + 1, h, ho, ht => by
    unfold sumTo
    by_cases e : t = n
    · subst e
      have : sumTo g t = sumTo f t := by
        have : ∀ m, m ≤ t → sumTo g m = sumTo f m := by
          intro m
          induction m with
          | zero => intro _; rfl
          | succ m ih => intro hm; unfold sumTo; rw [ih (by omega), ho m (by omega) (by omega)]
        exact this t (Nat.le_refl _)
      omega
    · rw [sumTo_bump n (by omega) (fun j hj hne => ho j (by omega) hne) ht, ho n (by omega) (fun g => e g.symm)]
      omega

theorem sumTo_same {f g : Nat → Int} : ∀ n, (∀ j, j < n → g j = f j) → sumTo g n = sumTo f n
  | 0, _ => rfl
  | n + 1, h => by
    unfold sumTo
    rw [sumTo_same n (fun j hj => h j (by omega)), h n (by omega)]

theorem sumTo_zero : ∀ n, sumTo (fun _ => 0) n = 0
  | 0 => rfl
  | n + 1 => by unfold sumTo; rw [sumTo_zero n]; rfl

/-- The sum over a level, against the interference and the task's own. -/
theorem level_sum {P J dm : Nat → Int} {Z : Nat → Int} {i : Nat} {w : Int} {f : Nat → Int} {own : Int} : ∀ n, (∀ j, j < n → Z i < Z j → f j ≤ ceilD (w + J j) (P j) * dm j) → (∀ j, j < n → j ≠ i → ¬ Z i < Z j → f j = 0) → (i < n → f i ≤ own) → 0 ≤ own →
    sumTo f n ≤ inter P J dm (fun j => decide (Z i < Z j)) w n + (if i < n then own else 0)
  | 0, _, _, _, _ => by simp [sumTo, inter]
  | n + 1, h1, h2, h3, h0 => by
    have ih := level_sum (P := P) (J := J) (dm := dm) (w := w) n (fun j hj => h1 j (by omega)) (fun j hj => h2 j (by omega)) (fun h => h3 (by omega)) h0
    unfold sumTo inter
    by_cases e : i = n
    · subst e
      rw [if_neg (Nat.lt_irrefl _)] at ih
      rw [if_pos (Nat.lt_succ_self _)]
      have := h3 (by omega)
      have hno : ¬ (decide (Z i < Z i) = true) := by simp
      rw [if_neg hno]
      omega
    · by_cases c : Z i < Z n
      · have := h1 n (by omega) c
        have hyes : decide (Z i < Z n) = true := by simpa using c
        rw [if_pos hyes]
        by_cases g : i < n
        · rw [if_pos g] at ih; rw [if_pos (by omega)]; omega
        · rw [if_neg g] at ih; rw [if_neg (by omega)]; omega
      · have := h2 n (by omega) (fun g => e g.symm) c
        have hno : ¬ (decide (Z i < Z n) = true) := by simpa using c
        rw [if_neg hno]
        by_cases g : i < n
        · rw [if_pos g] at ih; rw [if_pos (by omega)]; omega
        · rw [if_neg g] at ih; rw [if_neg (by omega)]; omega

/-- How many can have begun. -/
theorem count_le {N P J w : Int} (hP : 1 ≤ P) (h : N * P ≤ w - 1 + P + J) : N ≤ ceilD (w + J) P := by
  unfold ceilD
  exact Int.le_ediv_of_mul_le (by omega) (by omega)

end Go.Proofs.YtdabcflpcklfiaaGreat.Cad
