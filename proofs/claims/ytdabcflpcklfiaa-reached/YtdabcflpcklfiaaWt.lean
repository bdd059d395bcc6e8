import Derived.Test.YtdabcflpcklfiaaWr
namespace Go.Proofs.Ytdabcflpcklfiaa
open Go.RowKit

theorem row8 {w : World} {b t : Nat} {f : Nat → Value} (h : w.rowIs b t 8 f) : w.heap[b]? = some (.cells #[f 0, f 1, f 2, f 3, f 4, f 5, f 6, f 7] t (0, 0)) := by
  obtain ⟨c, hb, hn, hc⟩ := h
  rw [hb]
  congr 2
  apply Array.ext (by simpa using hn)
  intro i h1 h2
  have := hc i (by omega)
  rw [Array.getElem?_eq_getElem h1] at this
  rw [Option.some.inj this]
  have h3 : i < 8 := h2
  match i, h3 with
  | 0, _ => rfl
  | 1, _ => rfl
  | 2, _ => rfl
  | 3, _ => rfl
  | 4, _ => rfl
  | 5, _ => rfl
  | 6, _ => rfl
  | 7, _ => rfl

theorem all8 (a0 a1 a2 a3 a4 a5 a6 a7 : Bool) : (#[.bool a0, .bool a1, .bool a2, .bool a3, .bool a4, .bool a5, .bool a6, .bool a7] : Array Value).all (·.oneCell') = true := by simp [Value.oneCell']

def fls (_ : Nat) : Value := .bool false

theorem false8 (w : World) (t : TypeId) (g : Nat) (hg : g = w.heap.size) : (w.alloc (.cells #[.bool false, .bool false, .bool false, .bool false, .bool false, .bool false, .bool false, .bool false] t)).rowIs g t 8 fls := by
  refine row_lit _ _ _ _ _ _ hg rfl (fun i hi => ?_)
  match i, hi with
  | 0, _ => rfl
  | 1, _ => rfl
  | 2, _ => rfl
  | 3, _ => rfl
  | 4, _ => rfl
  | 5, _ => rfl
  | 6, _ => rfl
  | 7, _ => rfl

/-- The tasks above task i. -/
def abv (Z : Nat → Int) (n i q : Nat) : Bool := if q < n then decide (Z i < Z q) else false

def abTo (Z : Nat → Int) (i k q : Nat) : Value := .bool (abv Z k i q)

set_option maxRecDepth 100000 in
set_option maxHeartbeats 2000000 in
theorem above_any (pb po n pc i : Nat) (Z : Nat → Int) (w : World) (hn : n ≤ 8) (hin : i < n) (hpb : pb < w.heap.size) (hZ : IntsAt w pb po n Z) :
    Calls Try.prog 47 #[.int .i64 i, .slice (some ⟨pb, po, none⟩) n pc] w fun e w' => e = .returned (setV (abv Z n i)) ∧ Below w.heap.size w w' := by
  have HZ : Hid (IntsAt w pb po n Z) := hZ
  have HR0 : Hid (((w.alloc (.cells #[.bool false, .bool false, .bool false, .bool false, .bool false, .bool false, .bool false, .bool false] 86)).alloc (.cells #[.bool false, .bool false, .bool false, .bool false, .bool false, .bool false, .bool false, .bool false] 86)).rowIs w.heap.size 86 8 fls) := (false8 w 86 _ rfl).alloc _
  have HH0 : Hid (((w.alloc (.cells #[.bool false, .bool false, .bool false, .bool false, .bool false, .bool false, .bool false, .bool false] 86)).alloc (.cells #[.bool false, .bool false, .bool false, .bool false, .bool false, .bool false, .bool false, .bool false] 86)).rowIs (w.heap.size + 1) 86 8 fls) := false8 _ 86 _ (by simp)
  have HB0 : Hid (Below w.heap.size w ((w.alloc (.cells #[.bool false, .bool false, .bool false, .bool false, .bool false, .bool false, .bool false, .bool false] 86)).alloc (.cells #[.bool false, .bool false, .bool false, .bool false, .bool false, .bool false, .bool false, .bool false] 86))) := (below_alloc1 _ _).alloc (by simp) _
  clear hZ
  unfold setV
  go_enter Try.func47, Try.ntmps47
  go_wp2
  generalize ((w.alloc (.cells #[.bool false, .bool false, .bool false, .bool false, .bool false, .bool false, .bool false, .bool false] 86)).alloc (.cells #[.bool false, .bool false, .bool false, .bool false, .bool false, .bool false, .bool false, .bool false] 86)) = W at *
  go_loopw [10] (fun kv wr => ∃ k : Nat, k ≤ n ∧ kv = .int .i64 k ∧ wr.rowIs w.heap.size 86 8 fls ∧ wr.rowIs (w.heap.size + 1) 86 8 (abTo Z i k) ∧ Below w.heap.size w wr) (fun kv _ => n - (intOf kv).toNat)
  case atStart => exact ⟨0, Nat.zero_le _, rfl, HR0.out, HH0.out.congr (fun q _ => by unfold abTo abv; rw [if_neg (by omega)]; rfl), HB0.out⟩
  case round =>
    obtain ⟨k, hk, rfl, hr, hh, hbel⟩ := hrel
    have hl := hh.lt
    have hpw : pb < wr.heap.size := by omega
    by_cases hlt : k < n
    · have ck := IntsAt.below HZ.out hpb hbel k hlt
      have ci := IntsAt.below HZ.out hpb hbel i hin
      have x : wr.cell? ⟨w.heap.size + 1, k, none⟩ = some (abTo Z i k k) := hh.cell (by omega)
      have z : ∀ q, wr.frozen? ⟨w.heap.size + 1, q, none⟩ = false := fun q => hh.frozen q
      have FH : Hid ((wr.setCell ⟨w.heap.size + 1, k, none⟩ (.bool (decide (Z i < Z k)))).rowIs (w.heap.size + 1) 86 8 (abTo Z i (k + 1))) := (hh.set k _).congr (fun q _ => by
        unfold abTo abv
        by_cases e : q = k
        · subst e; rw [if_pos rfl, if_pos (by omega)]
        · rw [if_neg e]
          by_cases g : q < k
          · rw [if_pos g, if_pos (by omega)]
          · rw [if_neg g, if_neg (by omega)])
      have FR : Hid ((wr.setCell ⟨w.heap.size + 1, k, none⟩ (.bool (decide (Z i < Z k)))).rowIs w.heap.size 86 8 fls) := hr.setOther (by show _ ≠ w.heap.size + 1; omega) _
      have FB : Hid (Below w.heap.size w (wr.setCell ⟨w.heap.size + 1, k, none⟩ (.bool (decide (Z i < Z k))))) := hbel.setCell (by show _ ≤ w.heap.size + 1; omega) _
      clear hr hh hbel
      go_wp2
      all_goals
        go_roundw
        case rel => exact ⟨k + 1, by omega, by go_num, FR.out, FH.out, FB.out⟩
        case measure => simp [intOf]; omega
    · obtain rfl : k = n := by omega
      have HP2 : Hid (wr.heap[w.heap.size + 1]? = some (.cells #[.bool (abv Z k i 0), .bool (abv Z k i 1), .bool (abv Z k i 2), .bool (abv Z k i 3), .bool (abv Z k i 4), .bool (abv Z k i 5), .bool (abv Z k i 6), .bool (abv Z k i 7)] 86 (0, 0))) := row8 hh
      have HR2 : Hid (wr.heap[w.heap.size]? = some (.cells #[.bool false, .bool false, .bool false, .bool false, .bool false, .bool false, .bool false, .bool false] 86 (0, 0))) := row8 hr
      have HBL : Hid (Below w.heap.size w wr) := hbel
      clear hr hh hbel
      go_wp2_with (first | (refine wpList_load_row rfl 86 (.tmp 5) rfl (w.heap.size + 1) rfl 86 #[.bool (abv Z k i 0), .bool (abv Z k i 1), .bool (abv Z k i 2), .bool (abv Z k i 3), .bool (abv Z k i 4), .bool (abv Z k i 5), .bool (abv Z k i 6), .bool (abv Z k i 7)] (0, 0) _ HP2.out Try.underlying86 rfl (by kernel_rfl) ?_) | (refine wpList_store_row rfl 86 (.tmp 4) (.tmp 24) rfl w.heap.size #[.bool (abv Z k i 0), .bool (abv Z k i 1), .bool (abv Z k i 2), .bool (abv Z k i 3), .bool (abv Z k i 4), .bool (abv Z k i 5), .bool (abv Z k i 6), .bool (abv Z k i 7)] rfl rfl 86 #[.bool false, .bool false, .bool false, .bool false, .bool false, .bool false, .bool false, .bool false] HR2.out (by kernel_rfl) rfl (all8 _ _ _ _ _ _ _ _) ?_))
      refine bodyPost_ret (results_cell_row rfl _ _ w.heap.size 86 _ (0, 0) _ rfl (setRow_heap _ _ _ _ _ _ HR2.out) Try.underlying86 rfl (by kernel_rfl)) rfl ⟨rfl, ?_⟩
      exact HBL.out.trans ⟨rfl, rfl, rfl, by simp, fun q hq => setRow_other _ _ _ _ (by omega)⟩

def tkn (Z : Nat → Int) (k q : Nat) : Value := .bool (decide (∃ j, j < k ∧ Z j = (q : Int)))

theorem tkn_zero (Z : Nat → Int) (q : Nat) : fls q = tkn Z 0 q := by unfold fls tkn; simp

set_option maxHeartbeats 400000 in
theorem prio_no (ao : Option Addr) (pl cap n : Nat) (w : World) (hne : pl ≠ n) :
    Calls Try.prog 68 #[.slice ao pl cap, .int .i64 n] w fun e w' => e = .returned (.bool false) ∧ w' = w := by
  have hd : ((pl : Int) != (n : Int)) = true := by rw [bne_iff_ne]; omega
  go_enter Try.func68, Try.ntmps68
  go_wp2
  go_ret
  exact ⟨rfl, rfl⟩

set_option maxRecDepth 100000 in
set_option maxHeartbeats 2000000 in
theorem prio_any (pb po n pc : Nat) (Z : Nat → Int) (t : Bool) (w : World) (h1 : 1 ≤ n) (hn : n ≤ 8) (hpb : pb < w.heap.size) (hZ : IntsAt w pb po n Z) (ht : t = true ↔ Cad.PrioB Z n) :
    Calls Try.prog 68 #[.slice (some ⟨pb, po, none⟩) n pc, .int .i64 n] w fun e w' => e = .returned (.bool t) ∧ Below w.heap.size w w' := by
  have HZ : Hid (IntsAt w pb po n Z) := hZ
  have HT : Hid (t = true ↔ Cad.PrioB Z n) := ht
  have HR0 : Hid ((w.alloc (.cells #[.bool false, .bool false, .bool false, .bool false, .bool false, .bool false, .bool false, .bool false] 85)).rowIs w.heap.size 85 8 fls) := false8 w 85 _ rfl
  have HB0 : Hid (Below w.heap.size w (w.alloc (.cells #[.bool false, .bool false, .bool false, .bool false, .bool false, .bool false, .bool false, .bool false] 85))) := below_alloc1 _ _
  clear hZ ht
  have hd : ((n : Int) != (n : Int)) = false := by simp
  go_enter Try.func68, Try.ntmps68
  go_wp2
  generalize (w.alloc (.cells #[.bool false, .bool false, .bool false, .bool false, .bool false, .bool false, .bool false, .bool false] 85)) = W at *
  clear hd
  go_loopw [14] (fun kv wr => ∃ k : Nat, k ≤ n ∧ kv = .int .i64 k ∧ wr.rowIs w.heap.size 85 8 (tkn Z k) ∧ (∀ j, j < k → 0 ≤ Z j ∧ Z j < n) ∧ (∀ a b, a < k → b < k → Z a = Z b → a = b) ∧ Below w.heap.size w wr) (fun kv _ => n - (intOf kv).toNat)
  case atStart => exact ⟨0, Nat.zero_le _, rfl, HR0.out.congr (fun q _ => tkn_zero Z q), fun j hj => by omega, fun a b ha => by omega, HB0.out⟩
  case round =>
    obtain ⟨k, hk, rfl, hr, hrng, hinj, hbel⟩ := hrel
    have HRNG : Hid (∀ j, j < k → 0 ≤ Z j ∧ Z j < n) := hrng
    have HINJ : Hid (∀ a b, a < k → b < k → Z a = Z b → a = b) := hinj
    clear hrng hinj
    have hl := hr.lt
    by_cases hlt : k < n
    · have ck := IntsAt.below HZ.out hpb hbel k hlt
      have hpw : pb < wr.heap.size := by omega
      by_cases hin : 0 ≤ Z k ∧ Z k ≤ (n : Int) - 1
      · have hdd : decide ((0 : Int) ≤ Z k ∧ Z k ≤ (n : Int) - 1) = true := by simpa using hin
        obtain ⟨r, hzr⟩ : ∃ r : Nat, Z k = (r : Int) := ⟨(Z k).toNat, by omega⟩
        have hr8 : r < 8 := by omega
        by_cases htk : ∃ j, j < k ∧ Z j = (r : Int)
        · have x : wr.cell? ⟨w.heap.size, r, none⟩ = some (.bool true) := (hr.cell (by omega)).trans (by unfold tkn; rw [decide_eq_true htk])
          have FIN : Hid (t = false) := by
            show t = false
            cases t
            · rfl
            · obtain ⟨j, hj, e⟩ := htk
              have := (HT.out.1 rfl).2 j k (by omega) hlt (by rw [e, hzr])
              omega
          have HBL : Hid (Below w.heap.size w wr) := hbel
          rw [hzr] at ck hdd
          clear hzr hin htk hr hbel
          go_wp2_with fail
          refine (within_any _ _ _ _).mono ?_
          rintro e w' ⟨rfl, hw⟩
          obtain rfl := hw.symm
          clear hw
          rw [hdd]
          clear hdd
          go_wp2
          go_ret
          exact ⟨ret_bool FIN.out.symm, HBL.out⟩
        · have x : wr.cell? ⟨w.heap.size, r, none⟩ = some (.bool false) := (hr.cell (by omega)).trans (by unfold tkn; rw [decide_eq_false htk])
          have z : ∀ q, wr.frozen? ⟨w.heap.size, q, none⟩ = false := fun q => hr.frozen q
          have FR : Hid ((wr.setCell ⟨w.heap.size, r, none⟩ (.bool true)).rowIs w.heap.size 85 8 (tkn Z (k + 1))) := (hr.set r _).congr (fun q _ => by
            unfold tkn
            by_cases e : q = r
            · subst e; rw [if_pos rfl]; congr 1; symm; rw [decide_eq_true_iff]; exact ⟨k, by omega, hzr⟩
            · rw [if_neg e]; congr 1; rw [decide_eq_decide]
              constructor
              · rintro ⟨j, hj, g⟩; exact ⟨j, by omega, g⟩
              · rintro ⟨j, hj, g⟩
                by_cases ej : j = k
                · subst ej; omega
                · exact ⟨j, by omega, g⟩)
          have FB : Hid (Below w.heap.size w (wr.setCell ⟨w.heap.size, r, none⟩ (.bool true))) := hbel.setCell (Nat.le_refl _) _
          have F1 : Hid (∀ j, j < k + 1 → 0 ≤ Z j ∧ Z j < n) := fun j hj => by
            by_cases e : j = k
            · subst e; omega
            · exact HRNG.out j (by omega)
          have F2 : Hid (∀ a b, a < k + 1 → b < k + 1 → Z a = Z b → a = b) := fun a b ha hb e => by
            by_cases ea : a = k <;> by_cases eb : b = k
            · omega
            · exact absurd ⟨b, by omega, by rw [← e, ea, hzr]⟩ htk
            · exact absurd ⟨a, by omega, by rw [e, eb, hzr]⟩ htk
            · exact HINJ.out a b (by omega) (by omega) e
          rw [hzr] at ck hdd
          clear hzr hin htk hr hbel
          go_wp2_with fail
          refine (within_any _ _ _ _).mono ?_
          rintro e w' ⟨rfl, hw⟩
          obtain rfl := hw.symm
          clear hw
          rw [hdd]
          clear hdd
          go_wp2
          go_roundw
          case rel => exact ⟨k + 1, by omega, by go_num, FR.out, F1.out, F2.out, FB.out⟩
          case measure => simp [intOf]; omega
      · have hdd : decide ((0 : Int) ≤ Z k ∧ Z k ≤ (n : Int) - 1) = false := by rw [decide_eq_false_iff_not]; exact hin
        have FIN : Hid (t = false) := by
          show t = false
          cases t
          · rfl
          · have := (HT.out.1 rfl).1 k hlt
            omega
        have HBL : Hid (Below w.heap.size w wr) := hbel
        clear hin hr hbel
        go_wp2_with fail
        refine (within_any _ _ _ _).mono ?_
        rintro e w' ⟨rfl, hw⟩
        obtain rfl := hw.symm
        clear hw
        rw [hdd]
        clear hdd
        go_wp2
        go_ret
        exact ⟨ret_bool FIN.out.symm, HBL.out⟩
    · obtain rfl : k = n := by omega
      have FIN : Hid (t = true) := HT.out.2 ⟨HRNG.out, HINJ.out⟩
      go_wp2
      go_ret
      exact ⟨ret_bool FIN.out.symm, hbel⟩
end Go.Proofs.Ytdabcflpcklfiaa
