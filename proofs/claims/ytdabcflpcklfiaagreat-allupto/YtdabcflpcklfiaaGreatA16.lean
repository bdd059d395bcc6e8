import Derived.Test.YtdabcflpcklfiaaGreatA15
namespace Go.Proofs.YtdabcflpcklfiaaGreat
open Go.RowKit

theorem isCeil_unique {K N : Nat → Nat → Int} {L : Nat → Nat} {Z : Nat → Int} {n : Nat} {r c c' : Int} (hz : ∀ t, t < n → 0 ≤ Z t) (h : Cad.IsCeil K N L Z n r c) (h' : Cad.IsCeil K N L Z n r c') : c = c' := by
  rcases h.1 with a | ⟨t, ht, hl, e⟩ <;> rcases h'.1 with a' | ⟨t', ht', hl', e'⟩
  · omega
  · have := h.2 t' ht' hl'; have := hz t' ht'; omega
  · have := h'.2 t ht hl; have := hz t ht; omega
  · have := h.2 t' ht' hl'; have := h'.2 t ht hl; omega

theorem isLen_unique {K N : Nat → Int} {len : Nat} {r : Int} {i0 : Nat} {s s' : Int} (h : Cad.IsLen K N len r i0 s) (h' : Cad.IsLen K N len r i0 s') : s = s' := by
  rcases h with ⟨e, a, b, c, d, f, g⟩ | ⟨f, g⟩ <;> rcases h' with ⟨e', a', b', c', d', f', g'⟩ | ⟨f', g'⟩
  · have : e = e' := by
      rcases Nat.lt_trichotomy e e' with q | q | q
      · exact absurd ⟨c, d⟩ (f' e a q)
      · exact q
      · exact absurd ⟨c', d'⟩ (f e' a' q)
    subst this
    omega
  · exact absurd ⟨c, d⟩ (f' e a b)
  · exact absurd ⟨c', d'⟩ (f e' a' b')
  · omega

def SRefTo (T : TD) (Z : Nat → Int) (n i j k : Nat) (s : Int) : Prop :=
  ∃ a q, (a < j ∧ q < T.L a ∨ a = j ∧ q < k) ∧ Z a < Z i ∧ T.K a q = 2 ∧ (∃ c, Cad.IsCeil T.K T.N T.L Z n (T.N a q) c ∧ Z i ≤ c) ∧ Cad.IsLen (T.K a) (T.N a) (T.L a) (T.N a q) (q + 1) s

def BlkTo (T : TD) (Z : Nat → Int) (n i j k : Nat) (b : Int) : Prop := Cad.IsMax (SRefTo T Z n i j k) b

theorem BlkTo.start {T : TD} {Z : Nat → Int} {n i : Nat} : BlkTo T Z n i 0 0 0 := ⟨Int.le_refl _, .inl rfl, by rintro s ⟨a, q, h, _⟩; omega⟩

theorem BlkTo.skip {T : TD} {Z : Nat → Int} {n i j k : Nat} {b : Int} (h : BlkTo T Z n i j k b)
    (hs : ∀ s, Z j < Z i → T.K j k = 2 → (∃ c, Cad.IsCeil T.K T.N T.L Z n (T.N j k) c ∧ Z i ≤ c) → Cad.IsLen (T.K j) (T.N j) (T.L j) (T.N j k) (k + 1) s → s ≤ b) : BlkTo T Z n i j (k + 1) b := by
  obtain ⟨h0, h1, h2⟩ := h
  refine ⟨h0, ?_, ?_⟩
  · rcases h1 with h1 | ⟨a, q, hh, r⟩
    · exact .inl h1
    · exact .inr ⟨a, q, by omega, r⟩
  · rintro s ⟨a, q, hh, r1, r2, r3, r4⟩
    by_cases e : a = j ∧ q = k
    · obtain ⟨rfl, rfl⟩ := e
      exact hs s r1 r2 r3 r4
    · exact h2 s ⟨a, q, by omega, r1, r2, r3, r4⟩

theorem BlkTo.take {T : TD} {Z : Nat → Int} {n i j k : Nat} {b s c : Int} (h : BlkTo T Z n i j k b) (hz : Z j < Z i) (h2 : T.K j k = 2) (hc : Cad.IsCeil T.K T.N T.L Z n (T.N j k) c) (hci : Z i ≤ c)
    (hl : Cad.IsLen (T.K j) (T.N j) (T.L j) (T.N j k) (k + 1) s) (hb : b < s) : BlkTo T Z n i j (k + 1) s := by
  obtain ⟨h0, _, hm⟩ := h
  refine ⟨by omega, .inr ⟨j, k, .inr ⟨rfl, by omega⟩, hz, h2, ⟨c, hc, hci⟩, hl⟩, ?_⟩
  rintro s' ⟨a, q, hh, r1, r2, r3, r4⟩
  by_cases e : a = j ∧ q = k
  · obtain ⟨rfl, rfl⟩ := e
    rw [isLen_unique r4 hl]
    exact Int.le_refl _
  · have := hm s' ⟨a, q, by omega, r1, r2, r3, r4⟩
    omega

theorem BlkTo.next {T : TD} {Z : Nat → Int} {n i j k : Nat} {b : Int} (h : BlkTo T Z n i j k b) (hk : k = T.L j ∨ k = 0 ∧ ¬ Z j < Z i) : BlkTo T Z n i (j + 1) 0 b := by
  obtain ⟨h0, h1, h2⟩ := h
  refine ⟨h0, ?_, ?_⟩
  · rcases h1 with h1 | ⟨a, q, hh, r⟩
    · exact .inl h1
    · refine .inr ⟨a, q, .inl ?_, r⟩
      rcases hh with hh | ⟨rfl, hq⟩
      · exact ⟨by omega, hh.2⟩
      · rcases hk with e | ⟨e, _⟩
        · exact ⟨by omega, by omega⟩
        · omega
  · rintro s ⟨a, q, hh, r⟩
    refine h2 s ⟨a, q, ?_, r⟩
    rcases hh with ⟨ha, hq⟩ | hh
    · by_cases e : a = j
      · subst e
        rcases hk with g | ⟨_, g⟩
        · exact .inr ⟨rfl, by omega⟩
        · exact absurd r.1 g
      · exact .inl ⟨by omega, hq⟩
    · omega

theorem BlkTo.fin {T : TD} {Z : Nat → Int} {n i : Nat} {b : Int} (h : BlkTo T Z n i n 0 b) : Cad.IsMax (Cad.SRef T.K T.N T.L Z n i) b := by
  obtain ⟨h0, h1, h2⟩ := h
  refine ⟨h0, ?_, ?_⟩
  · rcases h1 with h1 | ⟨a, q, hh, r1, r2⟩
    · exact .inl h1
    · have : a < n ∧ q < T.L a := by
        rcases hh with hh | hh
        · exact hh
        · omega
      exact .inr ⟨a, q, this.1, r1, this.2, r2⟩
  · rintro s ⟨a, q, ha, r1, hq, r2⟩
    exact h2 s ⟨a, q, .inl ⟨ha, hq⟩, r1, r2⟩

set_option maxRecDepth 100000 in
set_option maxHeartbeats 3000000 in
theorem blocked_any (b off n cap pb po pc i : Nat) (T : TD) (Z : Nat → Int) (w : World) (hn : n ≤ 8) (hin : i < n) (hb : b < w.heap.size) (hpb : pb < w.heap.size) (hT : TasksAt w b off n T) (hZ : IntsAt w pb po n Z)
    (hv : ∀ t, t < n → Cad.progB (T.K t) (T.N t) (T.L t) = true) (hz : ∀ t, t < n → 0 ≤ Z t) :
    Calls Tryz.prog 95 #[.slice (some ⟨b, off, none⟩) n cap, .slice (some ⟨pb, po, none⟩) n pc, .int .i64 i] w fun e w' => ∃ s, e = .returned (.int .i64 s) ∧ Cad.IsMax (Cad.SRef T.K T.N T.L Z n i) s ∧ Below w.heap.size w w' := by
  have HT : Hid _ := hT
  have HZ : Hid _ := hZ
  have HV : Hid _ := hv
  have HZ0 : Hid _ := hz
  clear hT hZ hv hz
  go_enter Tryz.func95, Tryz.ntmps95
  go_wp2
  go_loopw [7, 8] (fun c jv wr => ∃ (j : Nat) (c0 : Int), j ≤ n ∧ jv = .int .i64 j ∧ c = .int .i64 c0 ∧ BlkTo T Z n i j 0 c0 ∧ Below w.heap.size w wr) (fun _ jv _ => n - (intOf jv).toNat)
  case atStart => exact ⟨0, 0, Nat.zero_le _, rfl, rfl, BlkTo.start, Below.refl _ _⟩
  case round =>
    obtain ⟨j, c0, hj, rfl, rfl, hce, hbel⟩ := hrel
    have HCE : Hid _ := hce
    clear hce
    by_cases hlt : j < n
    · have hsz := hbel.size
      have hLv := Cad.progB_inv (HV.out j hlt)
      have hL16 : T.L j ≤ 16 := hLv.2.1
      have hL1 : 1 ≤ T.L j := hLv.1
      clear hLv
      obtain ⟨_, _, _, c3, hp⟩ := TasksAt.below HT.out hb hbel j hlt
      obtain ⟨sb, so, hA, hsb0, hst0⟩ := (HT.out j hlt).2.2.2.2.2 hL1
      rw [hA] at c3
      have HST0 : Hid _ := hst0
      have HB : Hid _ := hbel
      clear hp hA hst0 hbel
      go_wp2_with fail
      clear c3
      go_loopw [7, 10] (fun c kv wr => ∃ (k : Nat) (c1 : Int), k ≤ T.L j ∧ kv = .int .i64 k ∧ c = .int .i64 c1 ∧ BlkTo T Z n i j k c1 ∧ (Z j < Z i ∨ k = 0) ∧ Below w.heap.size w wr) (fun _ kv _ => T.L j - (intOf kv).toNat)
      case atStart => exact ⟨0, c0, Nat.zero_le _, rfl, rfl, HCE.out, .inr rfl, HB.out⟩
      case round =>
        obtain ⟨k, c1, hk, rfl, rfl, hce1, hor, hbel1⟩ := hrel
        have HC1 : Hid _ := hce1
        have HOR : Hid _ := hor
        clear hce1 hor
        have hsz1 := hbel1.size
        have hbwr : b < wr.heap.size := by omega
        have hpwr : pb < wr.heap.size := by omega
        have hswr : sb < wr.heap.size := by omega
        have czj := IntsAt.below HZ.out hpb hbel1 j hlt
        have czi := IntsAt.below HZ.out hpb hbel1 i hin
        by_cases hkl : k < T.L j
        · have s0 := (StepsAt.below HST0.out hsb0 hbel1 k hkl).1
          have s1 := (StepsAt.below HST0.out hsb0 hbel1 k hkl).2
          by_cases hzz : Z j < Z i
          · have bzz : decide (Z j < Z i) = true := by simpa using hzz
            by_cases e2 : T.K j k = 2
            · have b2 : (T.K j k != 2) = false := by simp [e2]
              have HE2 : Hid _ := e2
              clear e2
              have HBL : Hid _ := hbel1
              clear hbel1
              go_wp2
              go_quiet (fail)
              go_wp2_with fail
              refine (length_any sb so (T.L j) _ k (T.K j) (T.N j) _ (HV.out j hlt) hkl (StepsAt.below HST0.out hsb0 (below_drewN HBL.out _))).mono ?_
              rintro e w2 ⟨s, m2, rfl, hlen, rfl⟩
              have HLEN : Hid _ := hlen
              clear hlen
              go_wp2_with fail
              refine (ceiling_any b off n cap pb po pc T Z (T.N j k) _ hn ?_ ?_ ?_ ?_ HV.out).mono ?_
              · simp; omega
              · simp; omega
              · exact TasksAt.below HT.out hb (below_drewN HBL.out _)
              · exact IntsAt.below HZ.out hpb (below_drewN HBL.out _)
              rintro e w3 ⟨c, rfl, hceil, hb3⟩
              have HCEIL : Hid _ := hceil
              clear hceil
              have hbel3 : Below w.heap.size w w3 := (below_drewN HBL.out _).trans (hb3.mono (by simpa using hsz1))
              have czi3 := IntsAt.below HZ.out hpb hbel3 i hin
              by_cases hge : Z i ≤ c
              · by_cases hgt : c1 < s
                · have FIN : Hid _ := BlkTo.take HC1.out hzz HE2.out HCEIL.out hge HLEN.out hgt
                  go_wp2
                  go_roundw
                  case rel => exact ⟨k + 1, s, by omega, by go_num, rfl, FIN.out, .inl hzz, hbel3⟩
                  case measure => simp [intOf]; omega
                · have FIN : Hid _ := BlkTo.skip HC1.out (fun s' _ _ _ hl' => by rw [isLen_unique hl' HLEN.out]; omega)
                  go_wp2
                  go_roundw
                  case rel => exact ⟨k + 1, c1, by omega, by go_num, rfl, FIN.out, .inl hzz, hbel3⟩
                  case measure => simp [intOf]; omega
              · have FIN : Hid _ := BlkTo.skip HC1.out (fun s' _ _ hc' _ => by
                  obtain ⟨c', hc', hge'⟩ := hc'
                  rw [isCeil_unique HZ0.out hc' HCEIL.out] at hge'
                  omega)
                go_wp2
                go_roundw
                case rel => exact ⟨k + 1, c1, by omega, by go_num, rfl, FIN.out, .inl hzz, hbel3⟩
                case measure => simp [intOf]; omega
            · have b2 : (T.K j k != 2) = true := by simpa using e2
              have FIN : Hid _ := BlkTo.skip HC1.out (fun s' _ h2 _ _ => absurd h2 e2)
              clear e2
              have HBL : Hid _ := hbel1
              clear hbel1
              go_wp2
              go_quiet (fail)
              go_wp2
              go_roundw
              case rel => exact ⟨k + 1, c1, by omega, by go_num, rfl, FIN.out, .inl hzz, below_drewN HBL.out _⟩
              case measure => simp [intOf]; omega
          · have bzz : decide (Z j < Z i) = false := by simpa using hzz
            have FIN : Hid _ := BlkTo.next HC1.out (.inr ⟨by rcases HOR.out with g | g <;> omega, hzz⟩)
            have HBL : Hid _ := hbel1
            clear hbel1 hzz
            go_wp2
            go_quiet (fail)
            go_wp2
            go_roundw
            case rel => exact ⟨j + 1, c1, by omega, by go_num, rfl, FIN.out, below_drewN HBL.out _⟩
            case measure => simp [intOf]; omega
        · obtain rfl : k = T.L j := by omega
          have hd : decide (((T.L j : Nat) : Int) < ((T.L j : Nat) : Int)) = false := by simp
          have FIN : Hid _ := BlkTo.next HC1.out (.inl rfl)
          have HBL : Hid _ := hbel1
          clear hbel1
          go_wp2
          go_quiet (fail)
          go_wp2
          go_roundw
          case rel => exact ⟨j + 1, c1, by omega, by go_num, rfl, FIN.out, below_drewN HBL.out _⟩
          case measure => simp [intOf]; omega
    · obtain rfl : j = n := by omega
      go_wp2
      go_ret
      exact ⟨_, rfl, BlkTo.fin HCE.out, hbel⟩
end Go.Proofs.YtdabcflpcklfiaaGreat
