import Derived.Test.YtdabcflpcklfiaaWi
namespace Go.Proofs.Ytdabcflpcklfiaa
open Go.RowKit

/-- The ceiling as far as it has been looked for: all tasks below i, and of task i the steps below k. -/
def CeilTo (T : TD) (Z : Nat → Int) (r : Int) (i k : Nat) (c : Int) : Prop :=
  (c = -1 ∨ (∃ t, t < i ∧ Cad.Locks (T.K t) (T.N t) (T.L t) r ∧ c = Z t) ∨ (∃ q, q < k ∧ T.K i q = 2 ∧ T.N i q = r ∧ c = Z i)) ∧
  (∀ t, t < i → Cad.Locks (T.K t) (T.N t) (T.L t) r → Z t ≤ c) ∧ ∀ q, q < k → T.K i q = 2 → T.N i q = r → Z i ≤ c

theorem CeilTo.start {T : TD} {Z : Nat → Int} {r : Int} : CeilTo T Z r 0 0 (-1) := ⟨.inl rfl, fun t ht => by omega, fun q hq => by omega⟩

theorem CeilTo.skip {T : TD} {Z : Nat → Int} {r c : Int} {i k : Nat} (h : CeilTo T Z r i k c) (hn : ¬ (T.K i k = 2 ∧ T.N i k = r ∧ c < Z i)) : CeilTo T Z r i (k + 1) c := by
  obtain ⟨a, b, d⟩ := h
  refine ⟨?_, b, fun q hq e1 e2 => ?_⟩
  · rcases a with a | a | ⟨q, hq, a⟩
    · exact .inl a
    · exact .inr (.inl a)
    · exact .inr (.inr ⟨q, by omega, a⟩)
  · by_cases e : q = k
    · subst e
      by_cases g : c < Z i
      · exact absurd ⟨e1, e2, g⟩ hn
      · omega
    · exact d q (by omega) e1 e2

theorem CeilTo.take {T : TD} {Z : Nat → Int} {r c : Int} {i k : Nat} (h : CeilTo T Z r i k c) (h1 : T.K i k = 2) (h2 : T.N i k = r) (h3 : c < Z i) : CeilTo T Z r i (k + 1) (Z i) := by
  obtain ⟨a, b, d⟩ := h
  exact ⟨.inr (.inr ⟨k, by omega, h1, h2, rfl⟩), fun t ht hl => by have := b t ht hl; omega, fun q _ _ _ => Int.le_refl _⟩

theorem CeilTo.next {T : TD} {Z : Nat → Int} {r c : Int} {i : Nat} (h : CeilTo T Z r i (T.L i) c) : CeilTo T Z r (i + 1) 0 c := by
  obtain ⟨a, b, d⟩ := h
  refine ⟨?_, fun t ht hl => ?_, fun q hq => by omega⟩
  · rcases a with a | ⟨t, ht, a⟩ | ⟨q, hq, e1, e2, e3⟩
    · exact .inl a
    · exact .inr (.inl ⟨t, by omega, a⟩)
    · exact .inr (.inl ⟨i, by omega, ⟨q, hq, e1, e2⟩, e3⟩)
  · by_cases e : t = i
    · subst e
      obtain ⟨q, hq, e1, e2⟩ := hl
      exact d q hq e1 e2
    · exact b t (by omega) hl

theorem CeilTo.fin {T : TD} {Z : Nat → Int} {r c : Int} {n : Nat} (h : CeilTo T Z r n 0 c) : Cad.IsCeil T.K T.N T.L Z n r c := by
  obtain ⟨a, b, _⟩ := h
  refine ⟨?_, b⟩
  rcases a with a | a | ⟨q, hq, _⟩
  · exact .inl a
  · exact .inr a
  · omega

set_option maxRecDepth 100000 in
set_option maxHeartbeats 2000000 in
theorem ceiling_any (b off n cap pb po pc : Nat) (T : TD) (Z : Nat → Int) (r : Int) (w : World) (hn : n ≤ 8) (hb : b < w.heap.size) (hpb : pb < w.heap.size) (hT : TasksAt w b off n T) (hZ : IntsAt w pb po n Z)
    (hv : ∀ t, t < n → Cad.progB (T.K t) (T.N t) (T.L t) = true) :
    Calls Try.prog 115 #[.slice (some ⟨b, off, none⟩) n cap, .slice (some ⟨pb, po, none⟩) n pc, .int .i64 r] w fun e w' => ∃ c, e = .returned (.int .i64 c) ∧ Cad.IsCeil T.K T.N T.L Z n r c ∧ Below w.heap.size w w' := by
  have HT : Hid _ := hT
  have HZ : Hid _ := hZ
  have HV : Hid _ := hv
  clear hT hZ hv
  go_enter Try.func115, Try.ntmps115
  go_wp2
  go_loopw [7, 8] (fun c i wr => ∃ (k : Nat) (c0 : Int), k ≤ n ∧ i = .int .i64 k ∧ c = .int .i64 c0 ∧ CeilTo T Z r k 0 c0 ∧ Below w.heap.size w wr) (fun _ i _ => n - (intOf i).toNat)
  case atStart => exact ⟨0, -1, Nat.zero_le _, rfl, rfl, CeilTo.start, Below.refl _ _⟩
  case round =>
    obtain ⟨i, c0, hi, rfl, rfl, hce, hbel⟩ := hrel
    have HCE : Hid _ := hce
    clear hce
    have HB : Hid _ := hbel
    clear hbel
    by_cases hlt : i < n
    · have hsz := HB.out.size
      have hLv := Cad.progB_inv (HV.out i hlt)
      have hL16 : T.L i ≤ 16 := hLv.2.1
      have hL1 : 1 ≤ T.L i := hLv.1
      clear hLv
      go_wp2_with fail
      go_loopw [7, 9] (fun c k wr => ∃ (q : Nat) (c1 : Int), q ≤ T.L i ∧ k = .int .i64 q ∧ c = .int .i64 c1 ∧ CeilTo T Z r i q c1 ∧ Below w.heap.size w wr) (fun _ k _ => T.L i - (intOf k).toNat)
      case atStart => exact ⟨0, c0, Nat.zero_le _, rfl, rfl, HCE.out, HB.out⟩
      case round =>
        obtain ⟨q, c1, hq, rfl, rfl, hce1, hbel1⟩ := hrel
        have HC1 : Hid _ := hce1
        clear hce1
        have hsz1 := hbel1.size
        have hbwr : b < wr.heap.size := by omega
        have hpwr : pb < wr.heap.size := by omega
        obtain ⟨_, _, _, c3, hp⟩ := TasksAt.below HT.out hb hbel1 i hlt
        have cz := IntsAt.below HZ.out hpb hbel1 i hlt
        obtain ⟨sb, so, hA, hsb, hst⟩ := hp.2 hL1
        rw [hA] at c3
        have HB1 : ∀ o, Below w.heap.size w (wr.alloc o) := fun o => hbel1.alloc hbel1.size o
        by_cases hql : q < T.L i
        · have s0 := (hst q hql).1
          have s1 := (hst q hql).2
          have hsk : Hid _ := CeilTo.skip (k := q) HC1.out
          have htk : Hid _ := CeilTo.take (k := q) HC1.out
          clear hp hst hA
          generalize hK : T.K i q = kk at *
          generalize hN : T.N i q = nn at *
          generalize hZi : Z i = zi at *
          have HK : Hid _ := hK
          have HN : Hid _ := hN
          have HZi : Hid _ := hZi
          clear hK hN hZi
          by_cases e2 : kk = 2
          · have b2 : (kk == 2) = true := by simpa using e2
            by_cases er : nn = r
            · have br : (nn == r) = true := by simpa using er
              by_cases ez : c1 < zi
              · have bz : decide (c1 < zi) = true := by simpa using ez
                have FIN : Hid _ := htk.out e2 er ez
                clear e2 er
                go_wp2
                go_roundw
                case rel => exact ⟨q + 1, zi, by omega, by go_num, rfl, FIN.out, HB1 _⟩
                case measure => simp [intOf]; omega
              · have FIN : Hid _ := hsk.out (fun e => ez e.2.2)
                clear e2 er
                go_wp2
                go_roundw
                case rel => exact ⟨q + 1, c1, by omega, by go_num, rfl, FIN.out, HB1 _⟩
                case measure => simp [intOf]; omega
            · have br : (nn == r) = false := by simpa using er
              have FIN : Hid _ := hsk.out (fun e => er e.2.1)
              clear e2 er
              go_wp2
              go_roundw
              case rel => exact ⟨q + 1, c1, by omega, by go_num, rfl, FIN.out, HB1 _⟩
              case measure => simp [intOf]; omega
          · have b2 : (kk == 2) = false := by simpa using e2
            have FIN : Hid _ := hsk.out (fun e => e2 e.1)
            clear e2
            go_wp2
            go_roundw
            case rel => exact ⟨q + 1, c1, by omega, by go_num, rfl, FIN.out, HB1 _⟩
            case measure => simp [intOf]; omega
        · obtain rfl : q = T.L i := by omega
          have HBL : Hid _ := hbel1
          clear hp hst hA hbel1
          go_wp2
          go_roundw
          case rel => exact ⟨i + 1, c1, by omega, by go_num, rfl, CeilTo.next HC1.out, HBL.out⟩
          case measure => simp [intOf]; omega
    · obtain rfl : i = n := by omega
      go_wp2
      go_ret
      exact ⟨_, rfl, CeilTo.fin HCE.out, HB.out⟩
end Go.Proofs.Ytdabcflpcklfiaa
