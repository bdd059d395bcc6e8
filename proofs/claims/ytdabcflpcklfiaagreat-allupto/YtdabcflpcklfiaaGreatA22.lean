import Derived.Test.YtdabcflpcklfiaaGreatA21
import Derived.Deep.MidRow
namespace Go.Proofs.YtdabcflpcklfiaaGreat
open Go.RowKit

theorem Tryz.info168 : (Tryz.prog.info? 168).map (fun i => (i.zero, i.size, i.bytes)) = some (some (.agg #[.int .i64 0, .int .i64 0, .int .i64 0, .int .i64 0, .int .i64 0, .int .i64 0, .int .i64 0, .int .i64 0, .int .i64 0, .int .i64 0, .int .i64 0, .int .i64 0]), 12, 96) := by kernel_rfl

def profV (T : TD) (i c : Nat) : Value :=
  if c = 0 then .int .i64 (T.P i) else if c = 1 then .int .i64 (T.D i) else if c = 2 then .int .i64 (T.J i) else if c = 3 then .int .i64 (T.dm i) else .int .i64 (T.lon i (c - 4))

def sysTo (T : TD) (k q : Nat) : Value := if q < k * 12 then profV T (q / 12) (q % 12) else zer q

theorem zero_12 (q : Nat) : ((Value.agg #[.int .i64 0, .int .i64 0, .int .i64 0, .int .i64 0, .int .i64 0, .int .i64 0, .int .i64 0, .int .i64 0, .int .i64 0, .int .i64 0, .int .i64 0, .int .i64 0]).cells[q % (Value.agg #[.int .i64 0, .int .i64 0, .int .i64 0, .int .i64 0, .int .i64 0, .int .i64 0, .int .i64 0, .int .i64 0, .int .i64 0, .int .i64 0, .int .i64 0, .int .i64 0]).cells.size]!) = zer q := by
  have hs : (Value.agg #[.int .i64 0, .int .i64 0, .int .i64 0, .int .i64 0, .int .i64 0, .int .i64 0, .int .i64 0, .int .i64 0, .int .i64 0, .int .i64 0, .int .i64 0, .int .i64 0]).cells = #[.int .i64 0, .int .i64 0, .int .i64 0, .int .i64 0, .int .i64 0, .int .i64 0, .int .i64 0, .int .i64 0, .int .i64 0, .int .i64 0, .int .i64 0, .int .i64 0] := rfl
  rw [hs]
  show (#[Value.int .i64 0, .int .i64 0, .int .i64 0, .int .i64 0, .int .i64 0, .int .i64 0, .int .i64 0, .int .i64 0, .int .i64 0, .int .i64 0, .int .i64 0, .int .i64 0][q % 12]!) = _
  have h : q % 12 < 12 := Nat.mod_lt _ (by omega)
  generalize q % 12 = m at h
  match m, h with
  | 0, _ => rfl
  | 1, _ => rfl
  | 2, _ => rfl
  | 3, _ => rfl
  | 4, _ => rfl
  | 5, _ => rfl
  | 6, _ => rfl
  | 7, _ => rfl
  | 8, _ => rfl
  | 9, _ => rfl
  | 10, _ => rfl
  | 11, _ => rfl

theorem row_setCells {g t m : Nat} : ∀ (vs : List Value) (o : Nat) (w : World) (f : Nat → Value), w.rowIs g t m f → (w.setCells g o vs).rowIs g t m (fun q => if o ≤ q then (vs[q - o]?).getD (f q) else f q)
  | [], o, w, f, h => h.congr (fun q _ => by split <;> simp)
  | v :: r, o, w, f, h => by
    refine (row_setCells r (o + 1) (w.setCell ⟨g, o, none⟩ v) _ (h.set o v)).congr (fun q _ => ?_)
    by_cases e : q = o
    · subst e
      rw [if_neg (by omega), if_pos rfl, if_pos (Nat.le_refl _), Nat.sub_self]
      rfl
    · by_cases hq : o + 1 ≤ q
      · rw [if_pos hq, if_neg e, if_pos (show o ≤ q by omega), show q - o = (q - (o + 1)) + 1 by omega]
        rfl
      · rw [if_neg hq, if_neg e, if_neg (by omega)]

theorem below_setCells {B g : Nat} {w0 : World} (hg : B ≤ g) : ∀ (vs : List Value) (o : Nat) (w : World), Below B w0 w → Below B w0 (w.setCells g o vs)
  | [], _, _, h => h
  | v :: r, o, w, h => below_setCells hg r (o + 1) (w.setCell ⟨g, o, none⟩ v) (h.setCell hg v)

def sysL (T : TD) (i : Nat) : List Value := [.int .i64 (T.P i), .int .i64 (T.D i), .int .i64 (T.J i), .int .i64 (T.dm i), .int .i64 (T.lon i 0), .int .i64 (T.lon i 1), .int .i64 (T.lon i 2), .int .i64 (T.lon i 3), .int .i64 (T.lon i 4), .int .i64 (T.lon i 5), .int .i64 (T.lon i 6), .int .i64 (T.lon i 7)]

theorem sys_setC {wr : World} {T : TD} {g n i : Nat} (h : wr.rowIs g 168 (n * 12) (sysTo T i)) : (wr.setCells g (i * 12) (sysL T i)).rowIs g 168 (n * 12) (sysTo T (i + 1)) := by
  refine (row_setCells (sysL T i) (i * 12) wr _ h).congr (fun q _ => ?_)
  unfold sysTo
  by_cases h1 : i * 12 ≤ q
  · rw [if_pos h1]
    by_cases h2 : q < (i + 1) * 12
    · rw [if_pos h2, show q / 12 = i by omega, show q % 12 = q - i * 12 by omega]
      have h3 : q - i * 12 < 12 := by omega
      generalize q - i * 12 = c at h3
      match c, h3 with
      | 0, _ => rfl
      | 1, _ => rfl
      | 2, _ => rfl
      | 3, _ => rfl
      | 4, _ => rfl
      | 5, _ => rfl
      | 6, _ => rfl
      | 7, _ => rfl
      | 8, _ => rfl
      | 9, _ => rfl
      | 10, _ => rfl
      | 11, _ => rfl
    · rw [if_neg h2, List.getElem?_eq_none (by show 12 ≤ _; omega), if_neg (by omega)]
      rfl
  · rw [if_neg h1, if_pos (by omega), if_pos (by omega)]

theorem sys_at {wr : World} {T : TD} {g n : Nat} (h : wr.rowIs g 168 (n * 12) (sysTo T n)) : SysAt wr g n T := by
  intro i hi
  have c := fun q hq => (h.cell (i := q) hq)
  have v : ∀ q c, q = i * 12 + c → c < 12 → sysTo T n q = profV T i c := fun q c e hc => by
    unfold sysTo
    rw [if_pos (by omega), show q / 12 = i by omega, show q % 12 = c by omega]
  refine ⟨?_, ?_, ?_, ?_, ?_, ?_, ?_, ?_, ?_, ?_, ?_, ?_⟩
  · rw [c _ (by omega), v _ 0 (by omega) (by omega)]; rfl
  · rw [c _ (by omega), v _ 1 (by omega) (by omega)]; rfl
  · rw [c _ (by omega), v _ 2 (by omega) (by omega)]; rfl
  · rw [c _ (by omega), v _ 3 (by omega) (by omega)]; rfl
  · rw [c _ (by omega), v _ 4 (by omega) (by omega)]; rfl
  · rw [c _ (by omega), v _ 5 (by omega) (by omega)]; rfl
  · rw [c _ (by omega), v _ 6 (by omega) (by omega)]; rfl
  · rw [c _ (by omega), v _ 7 (by omega) (by omega)]; rfl
  · rw [c _ (by omega), v _ 8 (by omega) (by omega)]; rfl
  · rw [c _ (by omega), v _ 9 (by omega) (by omega)]; rfl
  · rw [c _ (by omega), v _ 10 (by omega) (by omega)]; rfl
  · rw [c _ (by omega), v _ 11 (by omega) (by omega)]; rfl

set_option maxRecDepth 100000 in
set_option maxHeartbeats 4000000 in
theorem of_any (b off n cap : Nat) (T : TD) (w : World) (hG : Good T n) (hb : b < w.heap.size) (hT : TasksAt w b off n T) :
    Calls Tryz.prog 60 #[.slice (some ⟨b, off, none⟩) n cap] w fun e w' => e = .returned (.slice (some ⟨w.heap.size, 0, none⟩) n n) ∧ SysAt w' w.heap.size n T ∧ w.heap.size < w'.heap.size ∧ Below w.heap.size w w' := by
  obtain ⟨i6, hi6, hz60, hz61, hz62⟩ := info_parts Tryz.info168
  have HT : Hid (TasksAt w b off n T) := hT
  have HG : Hid (Good T n) := hG
  have h8 := hG.eight
  clear hT hG
  go_enter Tryz.func60, Tryz.ntmps60
  go_wp2_with (at_make; refine wpList_make_is _ rfl _ _ 124 rfl 168 i6 _ 12 96 Tryz.underlying124 hi6 hz60 hz61 hz62 _ _ _ _ n rfl rfl (by omega) (by omega) (by omega) (by omega) zer zero_12 ?_)
  intro w1 hr1 hg1 hs1
  have HB1 : Hid (Below w.heap.size w w1) := (Below.refl _ _).grown hg1 (Nat.le_refl _) (fun k hk => by cases hk)
  have HR1 : Hid (w1.rowIs w.heap.size 168 (n * 12) (sysTo T 0)) := hr1.congr (fun q _ => by unfold sysTo; rw [if_neg (by omega)])
  clear hr1 hg1 hs1
  go_wp2
  go_loopw [11] (fun iv wr => ∃ k : Nat, k ≤ n ∧ iv = .int .i64 k ∧ wr.rowIs w.heap.size 168 (n * 12) (sysTo T k) ∧ Below w.heap.size w wr) (fun iv _ => n - (intOf iv).toNat)
  case atStart => exact ⟨0, Nat.zero_le _, rfl, HR1.out, HB1.out⟩
  case round =>
    obtain ⟨i, hi, rfl, hrow, hbel⟩ := hrel
    have hgl := hrow.lt
    by_cases hlt : i < n
    · obtain ⟨c0, c1, c2, c3, hp⟩ := TasksAt.below HT.out hb hbel i hlt
      have hL1 := (Cad.progB_inv (HG.out.prog i hlt)).1
      obtain ⟨sb, so, hA, hsb, hst⟩ := hp.2 hL1
      rw [hA] at c3
      have HST : Hid (StepsAt wr sb so (T.L i) (T.K i) (T.N i)) := hst
      have hbwr : b < wr.heap.size := by omega
      have HROW : Hid (wr.rowIs w.heap.size 168 (n * 12) (sysTo T i)) := hrow
      have HBE : Hid (Below w.heap.size w wr) := hbel
      clear hp hA hst hrow hbel
      go_wp2_with fail
      refine (profile_any _ _ _ sb so (T.L i) (T.C i) (T.K i) (T.N i) _ (HG.out.prog i hlt) ?_ ?_).mono ?_
      · simp; omega
      · exact StepsAt.below HST.out hsb (below_alloc1 _ _)
      rintro e w3 ⟨rfl, hb3⟩
      have hbw : Below wr.heap.size wr w3 := (below_alloc1 _ _).trans (hb3.mono (by simp))
      have hrow : w3.rowIs w.heap.size 168 (n * 12) (sysTo T i) := World.rowIs.of_block HROW.out (hbw.block _ hgl)
      have HBE3 : Hid (Below w.heap.size w w3) := HBE.out.trans (hbw.mono (by omega))
      have HTH : Hid (w3.there w.heap.size (i * 12) (sysL T i).toArray.size) := fun q hq => ⟨by have : q < 12 := hq; rw [hrow.cell (by omega)]; rfl, hrow.frozen _⟩
      have FIN : Hid ((w3.setCells w.heap.size (i * 12) (sysL T i).toArray.toList).rowIs w.heap.size 168 (n * 12) (sysTo T (i + 1))) := sys_setC hrow
      have FB : Hid (Below w.heap.size w (w3.setCells w.heap.size (i * 12) (sysL T i).toArray.toList)) := below_setCells (Nat.le_refl _) _ _ _ HBE3.out
      clear hrow hb3 hbw c0 c1 c2 c3
      have hval : Value.agg #[.int .i64 (T.P i), .int .i64 (T.D i), .int .i64 (T.J i), .int .i64 (Cad.demTo (T.K i) (T.N i) (T.L i)), .int .i64 (Cad.lonTo (T.K i) (T.N i) 0 (T.L i)), .int .i64 (Cad.lonTo (T.K i) (T.N i) 1 (T.L i)), .int .i64 (Cad.lonTo (T.K i) (T.N i) 2 (T.L i)), .int .i64 (Cad.lonTo (T.K i) (T.N i) 3 (T.L i)), .int .i64 (Cad.lonTo (T.K i) (T.N i) 4 (T.L i)), .int .i64 (Cad.lonTo (T.K i) (T.N i) 5 (T.L i)), .int .i64 (Cad.lonTo (T.K i) (T.N i) 6 (T.L i)), .int .i64 (Cad.lonTo (T.K i) (T.N i) 7 (T.L i))] = .agg (sysL T i).toArray := rfl
      rw [hval]
      clear hval
      have HALL : Hid ((sysL T i).toArray.all (·.oneCell') = true) := all12 _ _ _ _ _ _ _ _ _ _ _ _
      have hsize : (sysL T i).toArray.size = 12 := rfl
      have HI66 : Hid ((Tryz.prog.info? 168).map (·.size) = some (sysL T i).toArray.size) := by unfold Hid; rw [hsize, hi6]; simp [hz61]
      clear hsize
      generalize hsl : (sysL T i).toArray = SL at *
      clear hsl
      go_wp2_with (refine wpList_store_mid rfl 168 (.tmp 20) (.tmp 19) rfl w.heap.size (i * 12) SL rfl rfl HTH.out HI66.out HALL.out ?_)
      go_roundw
      case rel => exact ⟨i + 1, by omega, by go_num, FIN.out, FB.out⟩
      case measure => simp [intOf]; omega
    · obtain rfl : i = n := by omega
      go_wp2
      go_ret
      exact ⟨rfl, sys_at hrow, hgl, hbel⟩
end Go.Proofs.YtdabcflpcklfiaaGreat

namespace Go.Proofs.YtdabcflpcklfiaaGreat
open Go.RowKit

theorem row8 {w : World} {b t : Nat} {f : Nat → Value} (h : w.rowIs b t 8 f) : w.heap[b]? = some (.cells #[f 0, f 1, f 2, f 3, f 4, f 5, f 6, f 7] t (0, 0)) := by
  obtain ⟨c, hb, hn, hc⟩ := h
  rw [hb]
  congr 2
  apply Array.ext (by simpa using hn)
  intro i h1 h2
  have := hc i (by omega)
  rw [Array.getElem?_eq_getElem h1] at this
  rw [Option.some.inj this]
  have h3 : i < 8 := h2
  match i, h3 with
  | 0, _ => rfl
  | 1, _ => rfl
  | 2, _ => rfl
  | 3, _ => rfl
  | 4, _ => rfl
  | 5, _ => rfl
  | 6, _ => rfl
  | 7, _ => rfl

theorem all8 (a0 a1 a2 a3 a4 a5 a6 a7 : Bool) : (#[.bool a0, .bool a1, .bool a2, .bool a3, .bool a4, .bool a5, .bool a6, .bool a7] : Array Value).all (·.oneCell') = true := by simp [Value.oneCell']

def fls (_ : Nat) : Value := .bool false

theorem false8 (w : World) (t : TypeId) (g : Nat) (hg : g = w.heap.size) : (w.alloc (.cells #[.bool false, .bool false, .bool false, .bool false, .bool false, .bool false, .bool false, .bool false] t)).rowIs g t 8 fls := by
  refine row_lit _ _ _ _ _ _ hg rfl (fun i hi => ?_)
  match i, hi with
  | 0, _ => rfl
  | 1, _ => rfl
  | 2, _ => rfl
  | 3, _ => rfl
  | 4, _ => rfl
  | 5, _ => rfl
  | 6, _ => rfl
  | 7, _ => rfl

/-- The tasks above task i. -/
def abv (Z : Nat → Int) (n i q : Nat) : Bool := if q < n then decide (Z i < Z q) else false

def abTo (Z : Nat → Int) (i k q : Nat) : Value := .bool (abv Z k i q)

set_option maxRecDepth 100000 in
set_option maxHeartbeats 2000000 in
theorem above_any (pb po n pc i : Nat) (Z : Nat → Int) (w : World) (hn : n ≤ 8) (hin : i < n) (hpb : pb < w.heap.size) (hZ : IntsAt w pb po n Z) :
    Calls Tryz.prog 62 #[.int .i64 i, .slice (some ⟨pb, po, none⟩) n pc] w fun e w' => e = .returned (setV (abv Z n i)) ∧ Below w.heap.size w w' := by
  have HZ : Hid (IntsAt w pb po n Z) := hZ
  have HR0 : Hid (((w.alloc (.cells #[.bool false, .bool false, .bool false, .bool false, .bool false, .bool false, .bool false, .bool false] 128)).alloc (.cells #[.bool false, .bool false, .bool false, .bool false, .bool false, .bool false, .bool false, .bool false] 128)).rowIs w.heap.size 128 8 fls) := (false8 w 128 _ rfl).alloc _
  have HH0 : Hid (((w.alloc (.cells #[.bool false, .bool false, .bool false, .bool false, .bool false, .bool false, .bool false, .bool false] 128)).alloc (.cells #[.bool false, .bool false, .bool false, .bool false, .bool false, .bool false, .bool false, .bool false] 128)).rowIs (w.heap.size + 1) 128 8 fls) := false8 _ 128 _ (by simp)
  have HB0 : Hid (Below w.heap.size w ((w.alloc (.cells #[.bool false, .bool false, .bool false, .bool false, .bool false, .bool false, .bool false, .bool false] 128)).alloc (.cells #[.bool false, .bool false, .bool false, .bool false, .bool false, .bool false, .bool false, .bool false] 128))) := (below_alloc1 _ _).alloc (by simp) _
  clear hZ
  unfold setV
  go_enter Tryz.func62, Tryz.ntmps62
  go_wp2
  generalize ((w.alloc (.cells #[.bool false, .bool false, .bool false, .bool false, .bool false, .bool false, .bool false, .bool false] 128)).alloc (.cells #[.bool false, .bool false, .bool false, .bool false, .bool false, .bool false, .bool false, .bool false] 128)) = W at *
  go_loopw [10] (fun kv wr => ∃ k : Nat, k ≤ n ∧ kv = .int .i64 k ∧ wr.rowIs w.heap.size 128 8 fls ∧ wr.rowIs (w.heap.size + 1) 128 8 (abTo Z i k) ∧ Below w.heap.size w wr) (fun kv _ => n - (intOf kv).toNat)
  case atStart => exact ⟨0, Nat.zero_le _, rfl, HR0.out, HH0.out.congr (fun q _ => by unfold abTo abv; rw [if_neg (by omega)]; rfl), HB0.out⟩
  case round =>
    obtain ⟨k, hk, rfl, hr, hh, hbel⟩ := hrel
    have hl := hh.lt
    have hpw : pb < wr.heap.size := by omega
    by_cases hlt : k < n
    · have ck := IntsAt.below HZ.out hpb hbel k hlt
      have ci := IntsAt.below HZ.out hpb hbel i hin
      have x : wr.cell? ⟨w.heap.size + 1, k, none⟩ = some (abTo Z i k k) := hh.cell (by omega)
      have z : ∀ q, wr.frozen? ⟨w.heap.size + 1, q, none⟩ = false := fun q => hh.frozen q
      have FH : Hid ((wr.setCell ⟨w.heap.size + 1, k, none⟩ (.bool (decide (Z i < Z k)))).rowIs (w.heap.size + 1) 128 8 (abTo Z i (k + 1))) := (hh.set k _).congr (fun q _ => by
        unfold abTo abv
        by_cases e : q = k
        · subst e; rw [if_pos rfl, if_pos (by omega)]
        · rw [if_neg e]
          by_cases g : q < k
          · rw [if_pos g, if_pos (by omega)]
          · rw [if_neg g, if_neg (by omega)])
      have FR : Hid ((wr.setCell ⟨w.heap.size + 1, k, none⟩ (.bool (decide (Z i < Z k)))).rowIs w.heap.size 128 8 fls) := hr.setOther (by show _ ≠ w.heap.size + 1; omega) _
      have FB : Hid (Below w.heap.size w (wr.setCell ⟨w.heap.size + 1, k, none⟩ (.bool (decide (Z i < Z k))))) := hbel.setCell (by show _ ≤ w.heap.size + 1; omega) _
      clear hr hh hbel
      go_wp2
      all_goals
        go_roundw
        case rel => exact ⟨k + 1, by omega, by go_num, FR.out, FH.out, FB.out⟩
        case measure => simp [intOf]; omega
    · obtain rfl : k = n := by omega
      have HP2 : Hid (wr.heap[w.heap.size + 1]? = some (.cells #[.bool (abv Z k i 0), .bool (abv Z k i 1), .bool (abv Z k i 2), .bool (abv Z k i 3), .bool (abv Z k i 4), .bool (abv Z k i 5), .bool (abv Z k i 6), .bool (abv Z k i 7)] 128 (0, 0))) := row8 hh
      have HR2 : Hid (wr.heap[w.heap.size]? = some (.cells #[.bool false, .bool false, .bool false, .bool false, .bool false, .bool false, .bool false, .bool false] 128 (0, 0))) := row8 hr
      have HBL : Hid (Below w.heap.size w wr) := hbel
      clear hr hh hbel
      go_wp2_with (first | (refine wpList_load_row rfl 128 (.tmp 5) rfl (w.heap.size + 1) rfl 128 #[.bool (abv Z k i 0), .bool (abv Z k i 1), .bool (abv Z k i 2), .bool (abv Z k i 3), .bool (abv Z k i 4), .bool (abv Z k i 5), .bool (abv Z k i 6), .bool (abv Z k i 7)] (0, 0) _ HP2.out Tryz.underlying128 rfl (by kernel_rfl) ?_) | (refine wpList_store_row rfl 128 (.tmp 4) (.tmp 24) rfl w.heap.size #[.bool (abv Z k i 0), .bool (abv Z k i 1), .bool (abv Z k i 2), .bool (abv Z k i 3), .bool (abv Z k i 4), .bool (abv Z k i 5), .bool (abv Z k i 6), .bool (abv Z k i 7)] rfl rfl 128 #[.bool false, .bool false, .bool false, .bool false, .bool false, .bool false, .bool false, .bool false] HR2.out (by kernel_rfl) rfl (all8 _ _ _ _ _ _ _ _) ?_))
      refine bodyPost_ret (results_cell_row rfl _ _ w.heap.size 128 _ (0, 0) _ rfl (setRow_heap _ _ _ _ _ _ HR2.out) Tryz.underlying128 rfl (by kernel_rfl)) rfl ⟨rfl, ?_⟩
      exact HBL.out.trans ⟨rfl, rfl, rfl, by simp, fun q hq => setRow_other _ _ _ _ (by omega)⟩

def tkn (Z : Nat → Int) (k q : Nat) : Value := .bool (decide (∃ j, j < k ∧ Z j = (q : Int)))

theorem tkn_zero (Z : Nat → Int) (q : Nat) : fls q = tkn Z 0 q := by unfold fls tkn; simp

set_option maxHeartbeats 400000 in
theorem prio_no (ao : Option Addr) (pl cap n : Nat) (w : World) (hne : pl ≠ n) :
    Calls Tryz.prog 70 #[.slice ao pl cap, .int .i64 n] w fun e w' => e = .returned (.bool false) ∧ w' = w := by
  have hd : ((pl : Int) != (n : Int)) = true := by rw [bne_iff_ne]; omega
  go_enter Tryz.func70, Tryz.ntmps70
  go_wp2
  go_ret
  exact ⟨rfl, rfl⟩

set_option maxRecDepth 100000 in
set_option maxHeartbeats 2000000 in
theorem prio_any (pb po n pc : Nat) (Z : Nat → Int) (t : Bool) (w : World) (h1 : 1 ≤ n) (hn : n ≤ 8) (hpb : pb < w.heap.size) (hZ : IntsAt w pb po n Z) (ht : t = true ↔ Cad.PrioB Z n) :
    Calls Tryz.prog 70 #[.slice (some ⟨pb, po, none⟩) n pc, .int .i64 n] w fun e w' => e = .returned (.bool t) ∧ Below w.heap.size w w' := by
  have HZ : Hid (IntsAt w pb po n Z) := hZ
  have HT : Hid (t = true ↔ Cad.PrioB Z n) := ht
  have HR0 : Hid ((w.alloc (.cells #[.bool false, .bool false, .bool false, .bool false, .bool false, .bool false, .bool false, .bool false] 127)).rowIs w.heap.size 127 8 fls) := false8 w 127 _ rfl
  have HB0 : Hid (Below w.heap.size w (w.alloc (.cells #[.bool false, .bool false, .bool false, .bool false, .bool false, .bool false, .bool false, .bool false] 127))) := below_alloc1 _ _
  clear hZ ht
  have hd : ((n : Int) != (n : Int)) = false := by simp
  go_enter Tryz.func70, Tryz.ntmps70
  go_wp2
  generalize (w.alloc (.cells #[.bool false, .bool false, .bool false, .bool false, .bool false, .bool false, .bool false, .bool false] 127)) = W at *
  clear hd
  go_loopw [14] (fun kv wr => ∃ k : Nat, k ≤ n ∧ kv = .int .i64 k ∧ wr.rowIs w.heap.size 127 8 (tkn Z k) ∧ (∀ j, j < k → 0 ≤ Z j ∧ Z j < n) ∧ (∀ a b, a < k → b < k → Z a = Z b → a = b) ∧ Below w.heap.size w wr) (fun kv _ => n - (intOf kv).toNat)
  case atStart => exact ⟨0, Nat.zero_le _, rfl, HR0.out.congr (fun q _ => tkn_zero Z q), fun j hj => by omega, fun a b ha => by omega, HB0.out⟩
  case round =>
    obtain ⟨k, hk, rfl, hr, hrng, hinj, hbel⟩ := hrel
    have HRNG : Hid (∀ j, j < k → 0 ≤ Z j ∧ Z j < n) := hrng
    have HINJ : Hid (∀ a b, a < k → b < k → Z a = Z b → a = b) := hinj
    clear hrng hinj
    have hl := hr.lt
    by_cases hlt : k < n
    · have ck := IntsAt.below HZ.out hpb hbel k hlt
      have hpw : pb < wr.heap.size := by omega
      by_cases hin : 0 ≤ Z k ∧ Z k ≤ (n : Int) - 1
      · have hdd : decide ((0 : Int) ≤ Z k ∧ Z k ≤ (n : Int) - 1) = true := by simpa using hin
        obtain ⟨r, hzr⟩ : ∃ r : Nat, Z k = (r : Int) := ⟨(Z k).toNat, by omega⟩
        have hr8 : r < 8 := by omega
        by_cases htk : ∃ j, j < k ∧ Z j = (r : Int)
        · have x : wr.cell? ⟨w.heap.size, r, none⟩ = some (.bool true) := (hr.cell (by omega)).trans (by unfold tkn; rw [decide_eq_true htk])
          have FIN : Hid (t = false) := by
            show t = false
            cases t
            · rfl
            · obtain ⟨j, hj, e⟩ := htk
              have := (HT.out.1 rfl).2 j k (by omega) hlt (by rw [e, hzr])
              omega
          have HBL : Hid (Below w.heap.size w wr) := hbel
          rw [hzr] at ck hdd
          clear hzr hin htk hr hbel
          go_wp2_with fail
          refine (within_any _ _ _ _).mono ?_
          rintro e w' ⟨rfl, hw⟩
          obtain rfl := hw.symm
          clear hw
          rw [hdd]
          clear hdd
          go_wp2
          go_ret
          exact ⟨ret_bool FIN.out.symm, HBL.out⟩
        · have x : wr.cell? ⟨w.heap.size, r, none⟩ = some (.bool false) := (hr.cell (by omega)).trans (by unfold tkn; rw [decide_eq_false htk])
          have z : ∀ q, wr.frozen? ⟨w.heap.size, q, none⟩ = false := fun q => hr.frozen q
          have FR : Hid ((wr.setCell ⟨w.heap.size, r, none⟩ (.bool true)).rowIs w.heap.size 127 8 (tkn Z (k + 1))) := (hr.set r _).congr (fun q _ => by
            unfold tkn
            by_cases e : q = r
            · subst e; rw [if_pos rfl]; congr 1; symm; rw [decide_eq_true_iff]; exact ⟨k, by omega, hzr⟩
            · rw [if_neg e]; congr 1; rw [decide_eq_decide]
              constructor
              · rintro ⟨j, hj, g⟩; exact ⟨j, by omega, g⟩
              · rintro ⟨j, hj, g⟩
                by_cases ej : j = k
                · subst ej; omega
                · exact ⟨j, by omega, g⟩)
          have FB : Hid (Below w.heap.size w (wr.setCell ⟨w.heap.size, r, none⟩ (.bool true))) := hbel.setCell (Nat.le_refl _) _
          have F1 : Hid (∀ j, j < k + 1 → 0 ≤ Z j ∧ Z j < n) := fun j hj => by
            by_cases e : j = k
            · subst e; omega
            · exact HRNG.out j (by omega)
          have F2 : Hid (∀ a b, a < k + 1 → b < k + 1 → Z a = Z b → a = b) := fun a b ha hb e => by
            by_cases ea : a = k <;> by_cases eb : b = k
            · omega
            · exact absurd ⟨b, by omega, by rw [← e, ea, hzr]⟩ htk
            · exact absurd ⟨a, by omega, by rw [e, eb, hzr]⟩ htk
            · exact HINJ.out a b (by omega) (by omega) e
          rw [hzr] at ck hdd
          clear hzr hin htk hr hbel
          go_wp2_with fail
          refine (within_any _ _ _ _).mono ?_
          rintro e w' ⟨rfl, hw⟩
          obtain rfl := hw.symm
          clear hw
          rw [hdd]
          clear hdd
          go_wp2
          go_roundw
          case rel => exact ⟨k + 1, by omega, by go_num, FR.out, F1.out, F2.out, FB.out⟩
          case measure => simp [intOf]; omega
      · have hdd : decide ((0 : Int) ≤ Z k ∧ Z k ≤ (n : Int) - 1) = false := by rw [decide_eq_false_iff_not]; exact hin
        have FIN : Hid (t = false) := by
          show t = false
          cases t
          · rfl
          · have := (HT.out.1 rfl).1 k hlt
            omega
        have HBL : Hid (Below w.heap.size w wr) := hbel
        clear hin hr hbel
        go_wp2_with fail
        refine (within_any _ _ _ _).mono ?_
        rintro e w' ⟨rfl, hw⟩
        obtain rfl := hw.symm
        clear hw
        rw [hdd]
        clear hdd
        go_wp2
        go_ret
        exact ⟨ret_bool FIN.out.symm, HBL.out⟩
    · obtain rfl : k = n := by omega
      have FIN : Hid (t = true) := HT.out.2 ⟨HRNG.out, HINJ.out⟩
      go_wp2
      go_ret
      exact ⟨ret_bool FIN.out.symm, hbel⟩
end Go.Proofs.YtdabcflpcklfiaaGreat
