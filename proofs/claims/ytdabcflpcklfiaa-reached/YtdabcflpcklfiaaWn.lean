import Derived.Test.YtdabcflpcklfiaaWm
namespace Go.Proofs.Ytdabcflpcklfiaa
open Go.RowKit

def TD.lon (T : TD) (j r : Nat) : Int := Cad.lonTo (T.K j) (T.N j) (r : Int) (T.L j)

/-- The cells of a system, as the program keeps it. -/
def SysAt (w : World) (g n : Nat) (T : TD) : Prop := ∀ i, i < n →
  w.cell? ⟨g, i * 12, none⟩ = some (.int .i64 (T.P i)) ∧ w.cell? ⟨g, i * 12 + 1, none⟩ = some (.int .i64 (T.D i)) ∧ w.cell? ⟨g, i * 12 + 2, none⟩ = some (.int .i64 (T.J i)) ∧ w.cell? ⟨g, i * 12 + 3, none⟩ = some (.int .i64 (T.dm i)) ∧
  w.cell? ⟨g, i * 12 + 4, none⟩ = some (.int .i64 (T.lon i 0)) ∧ w.cell? ⟨g, i * 12 + 5, none⟩ = some (.int .i64 (T.lon i 1)) ∧ w.cell? ⟨g, i * 12 + 6, none⟩ = some (.int .i64 (T.lon i 2)) ∧ w.cell? ⟨g, i * 12 + 7, none⟩ = some (.int .i64 (T.lon i 3)) ∧
  w.cell? ⟨g, i * 12 + 8, none⟩ = some (.int .i64 (T.lon i 4)) ∧ w.cell? ⟨g, i * 12 + 9, none⟩ = some (.int .i64 (T.lon i 5)) ∧ w.cell? ⟨g, i * 12 + 10, none⟩ = some (.int .i64 (T.lon i 6)) ∧ w.cell? ⟨g, i * 12 + 11, none⟩ = some (.int .i64 (T.lon i 7))

theorem SysAt.below {w w' : World} {g n B : Nat} {T : TD} (h : SysAt w g n T) (hg : g < B) (hbel : Below B w w') : SysAt w' g n T := fun i hi => by
  have c := fun q => hbel.cell (p := ⟨g, q, none⟩) (by exact hg)
  rw [c, c, c, c, c, c, c, c, c, c, c, c]
  exact h i hi

/-- A set of tasks, as a value. -/
def setV (Hs : Nat → Bool) : Value := .agg #[.bool (Hs 0), .bool (Hs 1), .bool (Hs 2), .bool (Hs 3), .bool (Hs 4), .bool (Hs 5), .bool (Hs 6), .bool (Hs 7)]

theorem set_row (w : World) (Hs : Nat → Bool) : (w.alloc (.cells #[.bool (Hs 0), .bool (Hs 1), .bool (Hs 2), .bool (Hs 3), .bool (Hs 4), .bool (Hs 5), .bool (Hs 6), .bool (Hs 7)] 86)).rowIs w.heap.size 86 8 (fun q => .bool (Hs q)) := by
  refine World.rowIs_alloc w #[.bool (Hs 0), .bool (Hs 1), .bool (Hs 2), .bool (Hs 3), .bool (Hs 4), .bool (Hs 5), .bool (Hs 6), .bool (Hs 7)] 86 _ (fun i hi => ?_)
  have h : i < 8 := hi
  match i, h with
  | 0, _ => rfl
  | 1, _ => rfl
  | 2, _ => rfl
  | 3, _ => rfl
  | 4, _ => rfl
  | 5, _ => rfl
  | 6, _ => rfl
  | 7, _ => rfl

set_option maxHeartbeats 400000 in
theorem rounded_any (a p : Int) (w : World) (h1 : 0 ≤ a) (h2 : a ≤ 1000000) (h3 : 1 ≤ p) (h4 : p ≤ 1000000) :
    Calls Try.prog 95 #[.int .i64 a, .int .i64 p] w fun e w' => e = .returned (.int .i64 (Cad.ceilD a p)) ∧ w' = w := by
  have hq0 : 0 ≤ (a + p - 1) / p := Int.ediv_nonneg (by omega) (by omega)
  have hq1 : (a + p - 1) / p ≤ a + p - 1 := Int.ediv_le_self _ (by omega)
  go_enter Try.func95, Try.ntmps95
  go_wp2
  go_ret
  exact ⟨rfl, rfl⟩

theorem prof_getL (T : TD) (i : Nat) {r : Nat} (hr : r < 8) : ([.int .i64 (T.P i), .int .i64 (T.D i), .int .i64 (T.J i), .int .i64 (T.dm i), .int .i64 (T.lon i 0), .int .i64 (T.lon i 1), .int .i64 (T.lon i 2), .int .i64 (T.lon i 3), .int .i64 (T.lon i 4), .int .i64 (T.lon i 5), .int .i64 (T.lon i 6), .int .i64 (T.lon i 7)] : List Value)[4 + r]? = some (.int .i64 (T.lon i r)) := by
  match r, hr with
  | 0, _ => rfl
  | 1, _ => rfl
  | 2, _ => rfl
  | 3, _ => rfl
  | 4, _ => rfl
  | 5, _ => rfl
  | 6, _ => rfl
  | 7, _ => rfl
theorem prof_getA (T : TD) (i : Nat) {r : Nat} (hr : r < 8) : (#[.int .i64 (T.P i), .int .i64 (T.D i), .int .i64 (T.J i), .int .i64 (T.dm i), .int .i64 (T.lon i 0), .int .i64 (T.lon i 1), .int .i64 (T.lon i 2), .int .i64 (T.lon i 3), .int .i64 (T.lon i 4), .int .i64 (T.lon i 5), .int .i64 (T.lon i 6), .int .i64 (T.lon i 7)] : Array Value)[4 + r]? = some (.int .i64 (T.lon i r)) := by
  match r, hr with
  | 0, _ => rfl
  | 1, _ => rfl
  | 2, _ => rfl
  | 3, _ => rfl
  | 4, _ => rfl
  | 5, _ => rfl
  | 6, _ => rfl
  | 7, _ => rfl

/-- Does a task of the set lock the resource? -/
def LockedBy (T : TD) (Hs : Nat → Bool) (r n : Nat) : Prop := ∃ t, t < n ∧ Hs t = true ∧ 0 < T.lon t r

set_option maxRecDepth 100000 in
set_option maxHeartbeats 2000000 in
theorem locked_any (g n cap r : Nat) (T : TD) (Hs : Nat → Bool) (t : Bool) (w : World) (hn : n ≤ 8) (hr : r < 8) (hg : g < w.heap.size) (hS : SysAt w g n T) (ht : t = true ↔ LockedBy T Hs r n) :
    Calls Try.prog 94 #[.slice (some ⟨g, 0, none⟩) n cap, .int .i64 r, setV Hs] w fun e w' => e = .returned (.bool t) ∧ Below w.heap.size w w' := by
  have HS : Hid _ := hS
  have HT : Hid _ := ht
  have hset := set_row w Hs
  have hba := below_alloc1 w (.cells #[.bool (Hs 0), .bool (Hs 1), .bool (Hs 2), .bool (Hs 3), .bool (Hs 4), .bool (Hs 5), .bool (Hs 6), .bool (Hs 7)] 86)
  have hsz0 : w.heap.size < (w.alloc (.cells #[.bool (Hs 0), .bool (Hs 1), .bool (Hs 2), .bool (Hs 3), .bool (Hs 4), .bool (Hs 5), .bool (Hs 6), .bool (Hs 7)] 86)).heap.size := hset.lt
  clear hS ht
  unfold setV
  go_enter Try.func94, Try.ntmps94
  go_wp2
  generalize (w.alloc (.cells #[.bool (Hs 0), .bool (Hs 1), .bool (Hs 2), .bool (Hs 3), .bool (Hs 4), .bool (Hs 5), .bool (Hs 6), .bool (Hs 7)] 86)) = W at *
  go_loopw [11] (fun iv wr => ∃ i : Nat, i ≤ n ∧ iv = .int .i64 i ∧ (∀ t, t < i → ¬ (Hs t = true ∧ 0 < T.lon t r)) ∧ Below (w.heap.size + 1) W wr) (fun iv _ => n - (intOf iv).toNat)
  case atStart => exact ⟨0, Nat.zero_le _, rfl, fun t ht => by omega, Below.refl _ _⟩
  case round =>
    obtain ⟨i, hi, rfl, hno, hbel⟩ := hrel
    have HNO : Hid _ := hno
    clear hno
    have hszw := hbel.size
    have HB0 : Hid (Below w.heap.size w wr) := hba.trans (hbel.mono (by omega))
    by_cases hlt : i < n
    · obtain ⟨c0, c1, c2, c3, c4, c5, c6, c7, c8, c9, c10, c11⟩ := SysAt.below HS.out hg HB0.out i hlt
      have hb : wr.cell? ⟨w.heap.size, i, none⟩ = some (.bool (Hs i)) := (hbel.cell (by simp)).trans (hset.cell (by omega))
      have hgw : g < wr.heap.size := by omega
      have hww : w.heap.size < wr.heap.size := by omega
      have HBE : ∀ o, Below (w.heap.size + 1) W (wr.alloc o) := fun o => hbel.alloc (by omega) o
      have hgL := prof_getL T i hr
      have hgA := prof_getA T i hr
      cases hh : Hs i
      · have HN2 : Hid (¬ (Hs i = true ∧ 0 < T.lon i r)) := by show ¬ _; simp [hh]
        rw [hh] at hb
        clear hh
        go_wp2
        go_roundw
        case rel => exact ⟨i + 1, by omega, by go_num, fun t ht => by
          by_cases e : t = i
          · subst e; exact HN2.out
          · exact HNO.out t (by omega), HBE _⟩
        case measure => simp [intOf]; omega
      · rw [hh] at hb
        have HHH : Hid _ := hh
        clear hh
        by_cases hp : 0 < T.lon i r
        · have FIN : Hid (t = true) := HT.out.2 ⟨i, hlt, HHH.out, hp⟩
          go_wp2
          go_ret
          exact ⟨ret_bool FIN.out.symm, HB0.out.alloc HB0.out.size _⟩
        · have HN2 : Hid (¬ (Hs i = true ∧ 0 < T.lon i r)) := fun e => hp e.2
          go_wp2
          go_roundw
          case rel => exact ⟨i + 1, by omega, by go_num, fun t ht => by
            by_cases e : t = i
            · subst e; exact HN2.out
            · exact HNO.out t (by omega), HBE _⟩
          case measure => simp [intOf]; omega
    · obtain rfl : i = n := by omega
      have FIN : Hid (t = false) := by
        show t = false
        cases t
        · rfl
        · obtain ⟨q, hq, e1, e2⟩ := HT.out.1 rfl
          exact absurd ⟨e1, e2⟩ (HNO.out q hq)
      go_wp2
      go_ret
      exact ⟨ret_bool FIN.out.symm, HB0.out⟩
end Go.Proofs.Ytdabcflpcklfiaa
