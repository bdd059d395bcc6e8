import Derived.Test.YtdabcflpcklfiaaGreatR21
import Derived.Deep.MidRow
namespace Go.Proofs.YtdabcflpcklfiaaGreat
open Go.RowKit

end Go.Proofs.YtdabcflpcklfiaaGreat

namespace Go.Proofs.YtdabcflpcklfiaaGreat
open Go.RowKit

def fls (_ : Nat) : Value := .bool false

theorem false8 (w : World) (t : TypeId) (g : Nat) (hg : g = w.heap.size) : (w.alloc (.cells #[.bool false, .bool false, .bool false, .bool false, .bool false, .bool false, .bool false, .bool false] t)).rowIs g t 8 fls := by
  refine row_lit _ _ _ _ _ _ hg rfl (fun i hi => ?_)
  match i, hi with
  | 0, _ => rfl
  | 1, _ => rfl
  | 2, _ => rfl
  | 3, _ => rfl
  | 4, _ => rfl
  | 5, _ => rfl
  | 6, _ => rfl
  | 7, _ => rfl

def tkn (Z : Nat → Int) (k q : Nat) : Value := .bool (decide (∃ j, j < k ∧ Z j = (q : Int)))

theorem tkn_zero (Z : Nat → Int) (q : Nat) : fls q = tkn Z 0 q := by unfold fls tkn; simp

set_option maxHeartbeats 400000 in
theorem prio_no (ao : Option Addr) (pl cap n : Nat) (w : World) (hne : pl ≠ n) :
    Calls Tryz.prog 70 #[.slice ao pl cap, .int .i64 n] w fun e w' => e = .returned (.bool false) ∧ w' = w := by
  have hd : ((pl : Int) != (n : Int)) = true := by rw [bne_iff_ne]; omega
  go_enter Tryz.func70, Tryz.ntmps70
  go_wp2
  go_ret
  exact ⟨rfl, rfl⟩

set_option maxRecDepth 100000 in
set_option maxHeartbeats 2000000 in
theorem prio_any (pb po n pc : Nat) (Z : Nat → Int) (t : Bool) (w : World) (h1 : 1 ≤ n) (hn : n ≤ 8) (hpb : pb < w.heap.size) (hZ : IntsAt w pb po n Z) (ht : t = true ↔ Cad.PrioB Z n) :
    Calls Tryz.prog 70 #[.slice (some ⟨pb, po, none⟩) n pc, .int .i64 n] w fun e w' => e = .returned (.bool t) ∧ Below w.heap.size w w' := by
  have HZ : Hid (IntsAt w pb po n Z) := hZ
  have HT : Hid (t = true ↔ Cad.PrioB Z n) := ht
  have HR0 : Hid ((w.alloc (.cells #[.bool false, .bool false, .bool false, .bool false, .bool false, .bool false, .bool false, .bool false] 127)).rowIs w.heap.size 127 8 fls) := false8 w 127 _ rfl
  have HB0 : Hid (Below w.heap.size w (w.alloc (.cells #[.bool false, .bool false, .bool false, .bool false, .bool false, .bool false, .bool false, .bool false] 127))) := below_alloc1 _ _
  clear hZ ht
  have hd : ((n : Int) != (n : Int)) = false := by simp
  go_enter Tryz.func70, Tryz.ntmps70
  go_wp2
  generalize (w.alloc (.cells #[.bool false, .bool false, .bool false, .bool false, .bool false, .bool false, .bool false, .bool false] 127)) = W at *
  clear hd
  go_loopw [14] (fun kv wr => ∃ k : Nat, k ≤ n ∧ kv = .int .i64 k ∧ wr.rowIs w.heap.size 127 8 (tkn Z k) ∧ (∀ j, j < k → 0 ≤ Z j ∧ Z j < n) ∧ (∀ a b, a < k → b < k → Z a = Z b → a = b) ∧ Below w.heap.size w wr) (fun kv _ => n - (intOf kv).toNat)
  case atStart => exact ⟨0, Nat.zero_le _, rfl, HR0.out.congr (fun q _ => tkn_zero Z q), fun j hj => by omega, fun a b ha => by omega, HB0.out⟩
  case round =>
    obtain ⟨k, hk, rfl, hr, hrng, hinj, hbel⟩ := hrel
    have HRNG : Hid (∀ j, j < k → 0 ≤ Z j ∧ Z j < n) := hrng
    have HINJ : Hid (∀ a b, a < k → b < k → Z a = Z b → a = b) := hinj
    clear hrng hinj
    have hl := hr.lt
    by_cases hlt : k < n
    · have ck := IntsAt.below HZ.out hpb hbel k hlt
      have hpw : pb < wr.heap.size := by omega
      by_cases hin : 0 ≤ Z k ∧ Z k ≤ (n : Int) - 1
      · have hdd : decide ((0 : Int) ≤ Z k ∧ Z k ≤ (n : Int) - 1) = true := by simpa using hin
        obtain ⟨r, hzr⟩ : ∃ r : Nat, Z k = (r : Int) := ⟨(Z k).toNat, by omega⟩
        have hr8 : r < 8 := by omega
        by_cases htk : ∃ j, j < k ∧ Z j = (r : Int)
        · have x : wr.cell? ⟨w.heap.size, r, none⟩ = some (.bool true) := (hr.cell (by omega)).trans (by unfold tkn; rw [decide_eq_true htk])
          have FIN : Hid (t = false) := by
            show t = false
            cases t
            · rfl
            · obtain ⟨j, hj, e⟩ := htk
              have := (HT.out.1 rfl).2 j k (by omega) hlt (by rw [e, hzr])
              omega
          have HBL : Hid (Below w.heap.size w wr) := hbel
          rw [hzr] at ck hdd
          clear hzr hin htk hr hbel
          go_wp2_with fail
          refine (within_any _ _ _ _).mono ?_
          rintro e w' ⟨rfl, hw⟩
          obtain rfl := hw.symm
          clear hw
          rw [hdd]
          clear hdd
          go_wp2
          go_ret
          exact ⟨ret_bool FIN.out.symm, HBL.out⟩
        · have x : wr.cell? ⟨w.heap.size, r, none⟩ = some (.bool false) := (hr.cell (by omega)).trans (by unfold tkn; rw [decide_eq_false htk])
          have z : ∀ q, wr.frozen? ⟨w.heap.size, q, none⟩ = false := fun q => hr.frozen q
          have FR : Hid ((wr.setCell ⟨w.heap.size, r, none⟩ (.bool true)).rowIs w.heap.size 127 8 (tkn Z (k + 1))) := (hr.set r _).congr (fun q _ => by
            unfold tkn
            by_cases e : q = r
            · subst e; rw [if_pos rfl]; congr 1; symm; rw [decide_eq_true_iff]; exact ⟨k, by omega, hzr⟩
            · rw [if_neg e]; congr 1; rw [decide_eq_decide]
              constructor
              · rintro ⟨j, hj, g⟩; exact ⟨j, by omega, g⟩
              · rintro ⟨j, hj, g⟩
                by_cases ej : j = k
                · subst ej; omega
                · exact ⟨j, by omega, g⟩)
          have FB : Hid (Below w.heap.size w (wr.setCell ⟨w.heap.size, r, none⟩ (.bool true))) := hbel.setCell (Nat.le_refl _) _
          have F1 : Hid (∀ j, j < k + 1 → 0 ≤ Z j ∧ Z j < n) := fun j hj => by
            by_cases e : j = k
            · subst e; omega
            · exact HRNG.out j (by omega)
          have F2 : Hid (∀ a b, a < k + 1 → b < k + 1 → Z a = Z b → a = b) := fun a b ha hb e => by
            by_cases ea : a = k <;> by_cases eb : b = k
            · omega
            · exact absurd ⟨b, by omega, by rw [← e, ea, hzr]⟩ htk
            · exact absurd ⟨a, by omega, by rw [e, eb, hzr]⟩ htk
            · exact HINJ.out a b (by omega) (by omega) e
          rw [hzr] at ck hdd
          clear hzr hin htk hr hbel
          go_wp2_with fail
          refine (within_any _ _ _ _).mono ?_
          rintro e w' ⟨rfl, hw⟩
          obtain rfl := hw.symm
          clear hw
          rw [hdd]
          clear hdd
          go_wp2
          go_roundw
          case rel => exact ⟨k + 1, by omega, by go_num, FR.out, F1.out, F2.out, FB.out⟩
          case measure => simp [intOf]; omega
      · have hdd : decide ((0 : Int) ≤ Z k ∧ Z k ≤ (n : Int) - 1) = false := by rw [decide_eq_false_iff_not]; exact hin
        have FIN : Hid (t = false) := by
          show t = false
          cases t
          · rfl
          · have := (HT.out.1 rfl).1 k hlt
            omega
        have HBL : Hid (Below w.heap.size w wr) := hbel
        clear hin hr hbel
        go_wp2_with fail
        refine (within_any _ _ _ _).mono ?_
        rintro e w' ⟨rfl, hw⟩
        obtain rfl := hw.symm
        clear hw
        rw [hdd]
        clear hdd
        go_wp2
        go_ret
        exact ⟨ret_bool FIN.out.symm, HBL.out⟩
    · obtain rfl : k = n := by omega
      have FIN : Hid (t = true) := HT.out.2 ⟨HRNG.out, HINJ.out⟩
      go_wp2
      go_ret
      exact ⟨ret_bool FIN.out.symm, hbel⟩
end Go.Proofs.YtdabcflpcklfiaaGreat
