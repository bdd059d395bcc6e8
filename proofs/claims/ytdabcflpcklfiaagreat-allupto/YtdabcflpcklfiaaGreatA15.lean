import Derived.Test.YtdabcflpcklfiaaGreatA14
import Derived.Test.YtdabcflpcklfiaaGreatA12
import Derived.Test.YtdabcflpcklfiaaGreatA01
namespace Go.Proofs.YtdabcflpcklfiaaGreat
open Go.RowKit

end Go.Proofs.YtdabcflpcklfiaaGreat

namespace Go.Proofs.YtdabcflpcklfiaaGreat
open Go.RowKit

/-- The tasks as they are lent: other memory, the same numbers. -/
def TD.lent (T : TD) (S : Nat → Nat) : TD := { T with A := fun j => some ⟨S j, 0, none⟩, C := fun j => T.L j + 1 }

theorem lent_at {B n : Nat} {T : TD} {S : Nat → Nat} {v : Value} {w wr : World} (h : LentInv B n n T S v w wr) (hL : ∀ i, i < n → T.L i * 16 ≤ 140737488351232) : TasksAt wr B 0 n (T.lent S) := by
  intro i hi
  obtain ⟨f0, f1, f2, f3⟩ := lf_at (T := T) (S := S) hi
  have c := fun q hq => h.lrow.cell (i := q) hq
  refine ⟨?_, ?_, ?_, ?_, ?_⟩
  · rw [Nat.zero_add, c _ (by omega), f0]; rfl
  · rw [Nat.zero_add, c _ (by omega), f1]; rfl
  · rw [Nat.zero_add, c _ (by omega), f2]; rfl
  · rw [Nat.zero_add, c _ (by omega), f3]; rfl
  · have hr := h.srow i hi
    have hLi := hL i hi
    refine ⟨by show T.L i ≤ _; omega, fun _ => ⟨S i, 0, rfl, hr.lt, fun q hq => ?_⟩⟩
    have hq' : q < T.L i := hq
    obtain ⟨e0, e1⟩ := sf_at (K := T.K i) (N := T.N i) hq'
    rw [Nat.zero_add, hr.cell (by omega), hr.cell (by omega), e0, e1]
    exact ⟨rfl, rfl⟩

theorem own_below {w w' : World} {base e size : Nat} {v : Value} {n : Nat} {xs : List Value} (h : w.ownsRow base e size v n xs) (hb : Below w.heap.size w w') : w'.ownsRow base e size v n xs := by
  refine h.kept (row := none) ⟨hb.os, hb.tape, hb.output, hb.size, fun k hk _ => hb.block k hk⟩ ?_
  cases v.ownBlock <;> simp

theorem row_below {w w' : World} {b t m : Nat} {f : Nat → Value} (h : w.rowIs b t m f) (hb : Below w.heap.size w w') : w'.rowIs b t m f := h.of_block (hb.block _ h.lt)

def chkR (T : TD) (n : Nat) : Int × Int := if 1 ≤ n ∧ n ≤ 8 then Cad.chk T.E n else (1, 0)

theorem cad_all (b off n cap : Nat) (T : TD) (w : World) (x y : Int) (hc : chkR T n = (x, y)) (hm : n ≤ 9223372036854775807) (hb : b < w.heap.size) (hT : TasksAt w b off n T) :
    Calls Tryz.prog 41 #[.slice (some ⟨b, off, none⟩) n cap] w fun e w' => e = .returned (.tuple #[.int .i64 x, .int .i64 y]) ∧ Below w.heap.size w w' := by
  unfold chkR at hc
  by_cases h : 1 ≤ n ∧ n ≤ 8
  · rw [if_pos h] at hc
    refine (cad_some b off n cap T w h.1 h.2 hb hT).mono ?_
    rintro e w' ⟨rfl, hb⟩
    exact ⟨by rw [hc], hb⟩
  · rw [if_neg h] at hc
    refine (cad_many _ n cap w (by omega) hm).mono ?_
    rintro e w' ⟨rfl, rfl⟩
    cases hc
    exact ⟨rfl, Below.refl _ _⟩

theorem ref_all (b off n cap : Nat) (T : TD) (w : World) (x y : Int) (hc : chkR T n = (x, y)) (hm : n ≤ 9223372036854775807) (hb : b < w.heap.size) (hT : TasksAt w b off n T) :
    Calls Tryz.prog 42 #[.slice (some ⟨b, off, none⟩) n cap] w fun e w' => e = .returned (.tuple #[.int .i64 x, .int .i64 y]) ∧ Below w.heap.size w w' := by
  unfold chkR at hc
  by_cases h : 1 ≤ n ∧ n ≤ 8
  · rw [if_pos h] at hc
    refine (ref_some b off n cap T w h.1 h.2 hb hT).mono ?_
    rintro e w' ⟨rfl, hb⟩
    exact ⟨by rw [hc], hb⟩
  · rw [if_neg h] at hc
    refine (ref_many _ n cap w (by omega) hm).mono ?_
    rintro e w' ⟨rfl, rfl⟩
    cases hc
    exact ⟨rfl, Below.refl _ _⟩

def fnil (q : Nat) : Value := if q = 8 then .int .i64 0 else .slice none 0 0

theorem world_row (w : World) : (w.alloc (.cells #[.slice none 0 0, .slice none 0 0, .slice none 0 0, .slice none 0 0, .slice none 0 0, .slice none 0 0, .slice none 0 0, .slice none 0 0, .int .i64 0] 32)).rowIs w.heap.size 32 9 (wf9 (.slice none 0 0) (.slice none 0 0) fnil) := by
  refine World.rowIs_alloc w #[.slice none 0 0, .slice none 0 0, .slice none 0 0, .slice none 0 0, .slice none 0 0, .slice none 0 0, .slice none 0 0, .slice none 0 0, .int .i64 0] 32 _ (fun i hi => ?_)
  have h : i < 9 := hi
  match i, h with
  | 0, _ => rfl
  | 1, _ => rfl
  | 2, _ => rfl
  | 3, _ => rfl
  | 4, _ => rfl
  | 5, _ => rfl
  | 6, _ => rfl
  | 7, _ => rfl
  | 8, _ => rfl

end Go.Proofs.YtdabcflpcklfiaaGreat

namespace Go.Proofs.YtdabcflpcklfiaaGreat
open Go.RowKit

/-- The cells of a list of numbers. -/
def IntsAt (w : World) (b off n : Nat) (Z : Nat → Int) : Prop := ∀ i, i < n → w.cell? ⟨b, off + i, none⟩ = some (.int .i64 (Z i))

theorem IntsAt.below {w w' : World} {b off n : Nat} {Z : Nat → Int} (h : IntsAt w b off n Z) (hb : b < w.heap.size) (hbel : Below w.heap.size w w') : IntsAt w' b off n Z :=
  fun i hi => (hbel.cell (by exact hb)).trans (h i hi)

theorem demTo_range {K N : Nat → Int} {len k : Nat} (h : Cad.progB K N len = true) (hk : k ≤ len) : 0 ≤ Cad.demTo K N k ∧ Cad.demTo K N k ≤ 1600 := by
  obtain ⟨_, _, _, I⟩ := Cad.progB_inv h
  have h1 := Cad.demTo_mono I.steps 0 k (by omega) hk
  have h2 := Cad.demTo_mono I.steps k len hk (Nat.le_refl _)
  have h3 := (Cad.dem_pos h).2
  have h0 : Cad.demTo K N 0 = 0 := rfl
  omega

set_option maxRecDepth 100000 in
set_option maxHeartbeats 400000 in
theorem demand_any (b off len cap : Nat) (K N : Nat → Int) (w : World) (hv : Cad.progB K N len = true) (hc : StepsAt w b off len K N) :
    Calls Tryz.prog 96 #[.slice (some ⟨b, off, none⟩) len cap] w fun e w' => e = .returned (.int .i64 (Cad.demTo K N len)) ∧ w' = w := by
  have HV : Hid _ := hv
  have h16 : len ≤ 16 := (Cad.progB_inv hv).2.1
  clear hv
  go_enter Tryz.func96, Tryz.ntmps96
  go_wp2
  go_loop [3, 4] (fun d i => ∃ k : Nat, k ≤ len ∧ i = .int .i64 k ∧ d = .int .i64 (Cad.demTo K N k)) (fun _ i => len - (intOf i).toNat)
  case atStart => exact ⟨0, Nat.zero_le _, rfl, rfl⟩
  case round =>
    obtain ⟨k, hk, rfl, rfl⟩ := hrel
    by_cases hlt : k < len
    · have hck := (hc k hlt).1
      have hcn := (hc k hlt).2
      have hr0 := demTo_range (k := k) HV.out hk
      have hr1 := demTo_range (k := k + 1) HV.out hlt
      have hs : Hid (Cad.demTo K N (k + 1) = Cad.demTo K N k + (if K k = 1 then N k else 0)) := rfl
      by_cases h1 : K k = 1
      · have hb : (K k == 1) = true := by simpa using h1
        have hs2 : Hid (Cad.demTo K N (k + 1) = Cad.demTo K N k + N k) := by have := hs.out; rw [if_pos h1] at this; exact this
        have hr2 : 0 ≤ Cad.demTo K N k + N k ∧ Cad.demTo K N k + N k ≤ 1600 := by rw [← hs2.out]; exact hr1
        clear h1 hr1
        go_wp2
        go_round
        case rel => exact ⟨k + 1, by omega, by go_num, by rw [hs2.out]⟩
        case measure => simp [intOf]; omega
      · have hb : (K k == 1) = false := by simpa using h1
        have hs2 : Hid (Cad.demTo K N (k + 1) = Cad.demTo K N k) := by have := hs.out; rw [if_neg h1] at this; show _ = _; omega
        clear h1 hr1
        go_wp2
        go_round
        case rel => exact ⟨k + 1, by omega, by go_num, by rw [hs2.out]⟩
        case measure => simp [intOf]; omega
    · obtain rfl : k = len := by omega
      go_wp2
      go_ret
      exact ⟨rfl, rfl⟩

set_option maxRecDepth 100000 in
set_option maxHeartbeats 1000000 in
theorem length_any (b off len cap k : Nat) (K N : Nat → Int) (w : World) (hv : Cad.progB K N len = true) (hk : k < len) (hc : StepsAt w b off len K N) :
    Calls Tryz.prog 123 #[.slice (some ⟨b, off, none⟩) len cap, .int .i64 k] w fun e w' => ∃ s m, e = .returned (.int .i64 s) ∧ Cad.IsLen K N len (N k) (k + 1) s ∧ w' = w.drewN m := by
  have HV : Hid _ := hv
  have h16 : len ≤ 16 := (Cad.progB_inv hv).2.1
  clear hv
  have hkn := (hc k hk).2
  go_enter Tryz.func123, Tryz.ntmps123
  go_wp2
  go_loopw [5, 6] (fun d i wr => ∃ j m : Nat, k + 1 ≤ j ∧ j ≤ len ∧ i = .int .i64 j ∧ d = .int .i64 (Cad.demTo K N j - Cad.demTo K N (k + 1)) ∧ (∀ t, k + 1 ≤ t → t < j → ¬ (K t = 3 ∧ N t = N k)) ∧ wr = w.drewN m) (fun _ i _ => len - (intOf i).toNat)
  case atStart => exact ⟨k + 1, 0, by omega, by omega, by go_num, by go_num, fun t h1 h2 => by omega, rfl⟩
  case round =>
    obtain ⟨j, m, hj1, hj, rfl, rfl, hno, rfl⟩ := hrel
    have HNO : Hid _ := hno
    clear hno
    have hrk := demTo_range (k := k + 1) HV.out hk
    by_cases hlt : j < len
    · have hcj := (hc j hlt).1
      have hcn := (hc j hlt).2
      have hr0 := demTo_range (k := j) HV.out hj
      have hr1 := demTo_range (k := j + 1) HV.out hlt
      have hs : Hid (Cad.demTo K N (j + 1) = Cad.demTo K N j + (if K j = 1 then N j else 0)) := rfl
      by_cases h3 : K j = 3
      · have b3 : (K j == 3) = true := by simpa using h3
        have b1 : (K j == 1) = false := by simp [h3]
        by_cases hn : N j = N k
        · have bn : (N j == N k) = true := by simpa using hn
          have FIN : Hid (Cad.IsLen K N len (N k) (k + 1) (Cad.demTo K N j - Cad.demTo K N (k + 1))) := .inl ⟨j, hj1, hlt, h3, hn, HNO.out, rfl⟩
          clear h3 hn hr1 b1
          go_wp2
          go_quiet (fail)
          go_wp2
          go_ret
          exact ⟨_, _, rfl, FIN.out, by rw [World.drewN_drewN]⟩
        · have bn : (N j == N k) = false := by simpa using hn
          have hs2 : Hid (Cad.demTo K N (j + 1) = Cad.demTo K N j) := by have := hs.out; rw [if_neg (by omega)] at this; show _ = _; omega
          have HN2 : Hid (¬ (K j = 3 ∧ N j = N k)) := fun e => hn e.2
          clear h3 hn hr1
          go_wp2
          go_quiet (fail)
          go_wp2
          go_roundw
          case rel => exact ⟨j + 1, _, by omega, by omega, by go_num, by rw [hs2.out], fun t h1 h2 => by
            by_cases e : t = j
            · subst e; exact HN2.out
            · exact HNO.out t h1 (by omega), rfl⟩
          case measure => simp [intOf]; omega
      · have b3 : (K j == 3) = false := by simpa using h3
        have HN2 : Hid (¬ (K j = 3 ∧ N j = N k)) := fun e => h3 e.1
        by_cases h1 : K j = 1
        · have b1 : (K j == 1) = true := by simpa using h1
          have hs2 : Hid (Cad.demTo K N (j + 1) = Cad.demTo K N j + N j) := by have := hs.out; rw [if_pos h1] at this; exact this
          have hr2 : 0 ≤ Cad.demTo K N j + N j ∧ Cad.demTo K N j + N j ≤ 1600 := by rw [← hs2.out]; exact hr1
          clear h3 h1 hr1
          go_wp2
          go_quiet (fail)
          go_wp2
          go_roundw
          case rel => exact ⟨j + 1, _, by omega, by omega, by go_num, by rw [hs2.out]; go_num, fun t h1 h2 => by
            by_cases e : t = j
            · subst e; exact HN2.out
            · exact HNO.out t h1 (by omega), rfl⟩
          case measure => simp [intOf]; omega
        · have b1 : (K j == 1) = false := by simpa using h1
          have hs2 : Hid (Cad.demTo K N (j + 1) = Cad.demTo K N j) := by have := hs.out; rw [if_neg h1] at this; show _ = _; omega
          clear h3 h1 hr1
          go_wp2
          go_quiet (fail)
          go_wp2
          go_roundw
          case rel => exact ⟨j + 1, _, by omega, by omega, by go_num, by rw [hs2.out], fun t h1 h2 => by
            by_cases e : t = j
            · subst e; exact HN2.out
            · exact HNO.out t h1 (by omega), rfl⟩
          case measure => simp [intOf]; omega
    · obtain rfl : j = len := by omega
      go_wp2
      go_ret
      exact ⟨_, _, rfl, .inr ⟨HNO.out, rfl⟩, rfl⟩
end Go.Proofs.YtdabcflpcklfiaaGreat

namespace Go.Proofs.YtdabcflpcklfiaaGreat
open Go.RowKit

/-- The ceiling as far as it has been looked for: all tasks below i, and of task i the steps below k. -/
def CeilTo (T : TD) (Z : Nat → Int) (r : Int) (i k : Nat) (c : Int) : Prop :=
  (c = -1 ∨ (∃ t, t < i ∧ Cad.Locks (T.K t) (T.N t) (T.L t) r ∧ c = Z t) ∨ (∃ q, q < k ∧ T.K i q = 2 ∧ T.N i q = r ∧ c = Z i)) ∧
  (∀ t, t < i → Cad.Locks (T.K t) (T.N t) (T.L t) r → Z t ≤ c) ∧ ∀ q, q < k → T.K i q = 2 → T.N i q = r → Z i ≤ c

theorem CeilTo.start {T : TD} {Z : Nat → Int} {r : Int} : CeilTo T Z r 0 0 (-1) := ⟨.inl rfl, fun t ht => by omega, fun q hq => by omega⟩

theorem CeilTo.skip {T : TD} {Z : Nat → Int} {r c : Int} {i k : Nat} (h : CeilTo T Z r i k c) (hn : ¬ (T.K i k = 2 ∧ T.N i k = r ∧ c < Z i)) : CeilTo T Z r i (k + 1) c := by
  obtain ⟨a, b, d⟩ := h
  refine ⟨?_, b, fun q hq e1 e2 => ?_⟩
  · rcases a with a | a | ⟨q, hq, a⟩
    · exact .inl a
    · exact .inr (.inl a)
    · exact .inr (.inr ⟨q, by omega, a⟩)
  · by_cases e : q = k
    · subst e
      by_cases g : c < Z i
      · exact absurd ⟨e1, e2, g⟩ hn
      · omega
    · exact d q (by omega) e1 e2

theorem CeilTo.take {T : TD} {Z : Nat → Int} {r c : Int} {i k : Nat} (h : CeilTo T Z r i k c) (h1 : T.K i k = 2) (h2 : T.N i k = r) (h3 : c < Z i) : CeilTo T Z r i (k + 1) (Z i) := by
  obtain ⟨a, b, d⟩ := h
  exact ⟨.inr (.inr ⟨k, by omega, h1, h2, rfl⟩), fun t ht hl => by have := b t ht hl; omega, fun q _ _ _ => Int.le_refl _⟩

theorem CeilTo.next {T : TD} {Z : Nat → Int} {r c : Int} {i : Nat} (h : CeilTo T Z r i (T.L i) c) : CeilTo T Z r (i + 1) 0 c := by
  obtain ⟨a, b, d⟩ := h
  refine ⟨?_, fun t ht hl => ?_, fun q hq => by omega⟩
  · rcases a with a | ⟨t, ht, a⟩ | ⟨q, hq, e1, e2, e3⟩
    · exact .inl a
    · exact .inr (.inl ⟨t, by omega, a⟩)
    · exact .inr (.inl ⟨i, by omega, ⟨q, hq, e1, e2⟩, e3⟩)
  · by_cases e : t = i
    · subst e
      obtain ⟨q, hq, e1, e2⟩ := hl
      exact d q hq e1 e2
    · exact b t (by omega) hl

theorem CeilTo.fin {T : TD} {Z : Nat → Int} {r c : Int} {n : Nat} (h : CeilTo T Z r n 0 c) : Cad.IsCeil T.K T.N T.L Z n r c := by
  obtain ⟨a, b, _⟩ := h
  refine ⟨?_, b⟩
  rcases a with a | a | ⟨q, hq, _⟩
  · exact .inl a
  · exact .inr a
  · omega

set_option maxRecDepth 100000 in
set_option maxHeartbeats 2000000 in
theorem ceiling_any (b off n cap pb po pc : Nat) (T : TD) (Z : Nat → Int) (r : Int) (w : World) (hn : n ≤ 8) (hb : b < w.heap.size) (hpb : pb < w.heap.size) (hT : TasksAt w b off n T) (hZ : IntsAt w pb po n Z)
    (hv : ∀ t, t < n → Cad.progB (T.K t) (T.N t) (T.L t) = true) :
    Calls Tryz.prog 124 #[.slice (some ⟨b, off, none⟩) n cap, .slice (some ⟨pb, po, none⟩) n pc, .int .i64 r] w fun e w' => ∃ c, e = .returned (.int .i64 c) ∧ Cad.IsCeil T.K T.N T.L Z n r c ∧ Below w.heap.size w w' := by
  have HT : Hid _ := hT
  have HZ : Hid _ := hZ
  have HV : Hid _ := hv
  clear hT hZ hv
  go_enter Tryz.func124, Tryz.ntmps124
  go_wp2
  go_loopw [7, 8] (fun c i wr => ∃ (k : Nat) (c0 : Int), k ≤ n ∧ i = .int .i64 k ∧ c = .int .i64 c0 ∧ CeilTo T Z r k 0 c0 ∧ Below w.heap.size w wr) (fun _ i _ => n - (intOf i).toNat)
  case atStart => exact ⟨0, -1, Nat.zero_le _, rfl, rfl, CeilTo.start, Below.refl _ _⟩
  case round =>
    obtain ⟨i, c0, hi, rfl, rfl, hce, hbel⟩ := hrel
    have HCE : Hid _ := hce
    clear hce
    have HB : Hid _ := hbel
    clear hbel
    by_cases hlt : i < n
    · have hsz := HB.out.size
      have hLv := Cad.progB_inv (HV.out i hlt)
      have hL16 : T.L i ≤ 16 := hLv.2.1
      have hL1 : 1 ≤ T.L i := hLv.1
      clear hLv
      go_wp2_with fail
      go_loopw [7, 9] (fun c k wr => ∃ (q : Nat) (c1 : Int), q ≤ T.L i ∧ k = .int .i64 q ∧ c = .int .i64 c1 ∧ CeilTo T Z r i q c1 ∧ Below w.heap.size w wr) (fun _ k _ => T.L i - (intOf k).toNat)
      case atStart => exact ⟨0, c0, Nat.zero_le _, rfl, rfl, HCE.out, HB.out⟩
      case round =>
        obtain ⟨q, c1, hq, rfl, rfl, hce1, hbel1⟩ := hrel
        have HC1 : Hid _ := hce1
        clear hce1
        have hsz1 := hbel1.size
        have hbwr : b < wr.heap.size := by omega
        have hpwr : pb < wr.heap.size := by omega
        obtain ⟨_, _, _, c3, hp⟩ := TasksAt.below HT.out hb hbel1 i hlt
        have cz := IntsAt.below HZ.out hpb hbel1 i hlt
        obtain ⟨sb, so, hA, hsb, hst⟩ := hp.2 hL1
        rw [hA] at c3
        have HB1 : ∀ o, Below w.heap.size w (wr.alloc o) := fun o => hbel1.alloc hbel1.size o
        by_cases hql : q < T.L i
        · have s0 := (hst q hql).1
          have s1 := (hst q hql).2
          have hsk : Hid _ := CeilTo.skip (k := q) HC1.out
          have htk : Hid _ := CeilTo.take (k := q) HC1.out
          clear hp hst hA
          generalize hK : T.K i q = kk at *
          generalize hN : T.N i q = nn at *
          generalize hZi : Z i = zi at *
          have HK : Hid _ := hK
          have HN : Hid _ := hN
          have HZi : Hid _ := hZi
          clear hK hN hZi
          by_cases e2 : kk = 2
          · have b2 : (kk == 2) = true := by simpa using e2
            by_cases er : nn = r
            · have br : (nn == r) = true := by simpa using er
              by_cases ez : c1 < zi
              · have bz : decide (c1 < zi) = true := by simpa using ez
                have FIN : Hid _ := htk.out e2 er ez
                clear e2 er
                go_wp2
                go_roundw
                case rel => exact ⟨q + 1, zi, by omega, by go_num, rfl, FIN.out, HB1 _⟩
                case measure => simp [intOf]; omega
              · have FIN : Hid _ := hsk.out (fun e => ez e.2.2)
                clear e2 er
                go_wp2
                go_roundw
                case rel => exact ⟨q + 1, c1, by omega, by go_num, rfl, FIN.out, HB1 _⟩
                case measure => simp [intOf]; omega
            · have br : (nn == r) = false := by simpa using er
              have FIN : Hid _ := hsk.out (fun e => er e.2.1)
              clear e2 er
              go_wp2
              go_roundw
              case rel => exact ⟨q + 1, c1, by omega, by go_num, rfl, FIN.out, HB1 _⟩
              case measure => simp [intOf]; omega
          · have b2 : (kk == 2) = false := by simpa using e2
            have FIN : Hid _ := hsk.out (fun e => e2 e.1)
            clear e2
            go_wp2
            go_roundw
            case rel => exact ⟨q + 1, c1, by omega, by go_num, rfl, FIN.out, HB1 _⟩
            case measure => simp [intOf]; omega
        · obtain rfl : q = T.L i := by omega
          have HBL : Hid _ := hbel1
          clear hp hst hA hbel1
          go_wp2
          go_roundw
          case rel => exact ⟨i + 1, c1, by omega, by go_num, rfl, CeilTo.next HC1.out, HBL.out⟩
          case measure => simp [intOf]; omega
    · obtain rfl : i = n := by omega
      go_wp2
      go_ret
      exact ⟨_, rfl, CeilTo.fin HCE.out, HB.out⟩
end Go.Proofs.YtdabcflpcklfiaaGreat
