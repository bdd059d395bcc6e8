import Derived.Test.YtdabcflpcklfiaaVu
import Derived.Test.YtdabcflpcklfiaaVp
/- The law's watched, walked. -/
namespace Go.Proofs.Ytdabcflpcklfiaa
open Go.RowKit Cad

theorem box8 (w : World) (a b c d e f g h : Value) (t : Nat) : (w.alloc (.cells #[a, b, c, d, e, f, g, h] t)).rowIs w.heap.size t 8 (fun q => if q = 0 then a else if q = 1 then b else if q = 2 then c else if q = 3 then d else if q = 4 then e else if q = 5 then f else if q = 6 then g else h) :=
  World.rowIs_alloc w #[a, b, c, d, e, f, g, h] t _ (fun i hi => by
    have hi' : i < 8 := hi
    match i, hi' with
    | 0, _ => rfl
    | 1, _ => rfl
    | 2, _ => rfl
    | 3, _ => rfl
    | 4, _ => rfl
    | 5, _ => rfl
    | 6, _ => rfl
    | 7, _ => rfl)

/-- A watch that has just been made. -/
theorem wst_start {w0 w1 w' : World} {n kb wb rb g : Nat} {tv pv : Value} {S : Sy} (hk : KSt (fun q => q < w0.heap.size ∨ q = g) w1 kb S Cad.start) (hb1 : Below w0.heap.size w0 w1) (hb2 : Below w1.heap.size w1 w')
    (hr : w'.rowIs rb 95 n (fun _ => .slice none 0 0)) (hw : w'.rowIs wb 90 8 (wcell kb n tv pv rb wstart)) (h1 : w1.heap.size ≤ rb) (h2 : w1.heap.size ≤ wb) : WSt w0 w' n kb wb tv pv S Cad.start := by
  have hs := hb1.size
  refine ⟨wstart, fun _ => 0, ⟨wb, rb, fun _ => .slice none 0 0, fun _ _ => 0, fun _ _ _ => .slice none 0 0⟩, ⟨hw, hr, fun t ht => .inl ⟨rfl, rfl⟩, fun t ht i x hx => (by cases hx), fun t ht i x hx => (by cases hx), by show w0.heap.size ≤ wb; omega, by show w0.heap.size ≤ rb; omega, fun t ht i hi => (by cases hi)⟩, ⟨fun t t' b _ _ e => (by cases e), fun t k t' k' h => ?_, fun c t k c' t' k' b _ _ _ _ e => (by cases e)⟩, rfl, ?_, wi_start S, lk_start S, hb1.trans (hb2.mono hs), cn_start S⟩
  · obtain ⟨_, g2, g3⟩ := h
    have : (wstart.runs t).length = 0 := rfl
    omega
  · refine (hk.more (own' := _) ?_).below hb2
    rintro q (g | g | g | ⟨t, _, g⟩ | ⟨t, k, ⟨_, g2, g3⟩, _⟩ | ⟨c, t, k, _, _, g⟩)
    · exact .inl (.inl g)
    · exact .inr (by rw [g]; exact h2)
    · exact .inr (by rw [g]; exact h1)
    · cases g
    · have : (wstart.runs t).length = 0 := rfl
      omega
    · cases g

theorem Try.underlying88 : Try.prog.underlying 88 = some (.slice 95) := by kernel_rfl
theorem Try.info95 : (Try.prog.info? 95).map (fun i => (i.zero, i.size, i.bytes)) = some (some (.slice none 0 0), 1, 24) := by kernel_rfl

set_option maxRecDepth 100000 in
set_option maxHeartbeats 4000000 in
theorem watched_any (so ao : Option Addr) (n cap pn pc : Nat) (T : TD) (Z : Nat → Int) (w : World) (hm : n ≤ 9223372036854775807) (hT : 1 ≤ n → ∃ b off, so = some ⟨b, off, none⟩ ∧ b < w.heap.size ∧ TasksAt w b off n T)
    (hZ : 1 ≤ pn → ∃ pb po, ao = some ⟨pb, po, none⟩ ∧ pb < w.heap.size ∧ IntsAt w pb po pn Z) :
    Calls Try.prog 19 #[.slice so n cap, .slice ao pn pc] w fun e w' => (e = .returned (.tuple #[.pointer none, .bool true]) ∧ Below w.heap.size w w') ∨
      (∃ (kb wb : Nat), pn = n ∧ Good T n ∧ PrioB Z n ∧ e = .returned (.tuple #[.pointer (some ⟨wb, 0, none⟩), .bool true]) ∧ WSt w w' n kb wb (.slice so n cap) (.slice ao pn pc) (sysOf T Z n) Cad.start) := by
  have HO := opened_any so ao n cap pn pc T Z w hm hT hZ
  clear hT hZ
  go_enter Try.func19, Try.ntmps19
  go_wp2_with fail
  refine HO.mono ?_
  rintro e w1 (⟨rfl, hb1⟩ | ⟨kb, g, R, rfl, hG, hP, rfl, hgB, hrow, hR, hk, hb1⟩)
  · have HB1 : Hid (Below w.heap.size w w1) := hb1
    clear hb1
    go_wp2
    go_ret2
    exact .inl ⟨rfl, HB1.out⟩
  · have h8 := hG.eight
    have HB1 : Hid (Below w.heap.size w w1) := hb1
    have HG : Hid (Good T pn) := hG
    have HP : Hid (PrioB Z pn) := hP
    have HK : Hid (KSt (fun q => q < w.heap.size ∨ q = g) w1 kb (sysOf T Z pn) Cad.start) := hk
    clear hb1 hG hP hrow hR hk HO
    have hmk : ∀ w, (Instr.makeSlice 88 (.int .i64 (pn : Int)) (.int .i64 (pn : Int))).run Try.prog w = .ok (.slice (some ⟨w.heap.size, 0, none⟩) pn pn) (w.alloc (.cells (madeCells #[.slice none 0 0] pn) 95)) := fun w => run_make_row' 88 95 _ 24 Try.underlying88 Try.info95 rfl .i64 .i64 pn (by omega) (by omega) w
    go_wp2
    go_ret2
    refine .inr ⟨HG.out, HP.out, kb, w1.heap.size + 1, rfl, ?_⟩
    have r1 := World.rowIs_made w1 (.slice none 0 0) pn 95
    have b1 : Below w1.heap.size w1 (w1.alloc (.cells (madeCells #[.slice none 0 0] pn) 95)) := below_alloc1 _ _
    have b2 : Below (w1.alloc (.cells (madeCells #[.slice none 0 0] pn) 95)).heap.size (w1.alloc (.cells (madeCells #[.slice none 0 0] pn) 95)) ((w1.alloc (.cells (madeCells #[.slice none 0 0] pn) 95)).alloc (.cells #[.pointer (some ⟨kb, 0, none⟩), .slice so pn cap, .slice ao pn pc, .slice (some ⟨w1.heap.size, 0, none⟩) pn pn, .int .i64 0, .int .i64 0, .int .i64 0, .int .i64 0] 90)) := below_alloc1 _ _
    have r2 := box8 (w1.alloc (.cells (madeCells #[.slice none 0 0] pn) 95)) (.pointer (some ⟨kb, 0, none⟩)) (.slice so pn cap) (.slice ao pn pc) (.slice (some ⟨w1.heap.size, 0, none⟩) pn pn) (.int .i64 0) (.int .i64 0) (.int .i64 0) (.int .i64 0) 90
    have e1 : (w1.alloc (.cells (madeCells #[.slice none 0 0] pn) 95)).heap.size = w1.heap.size + 1 := World.size_alloc _ _
    rw [e1] at r2
    exact wst_start HK.out HB1.out (b1.trans (b2.mono b1.size)) (r1.of_block (b2.block _ r1.lt)) (r2.congr (fun p hp => by
      match p, hp with
      | 0, _ => rfl
      | 1, _ => rfl
      | 2, _ => rfl
      | 3, _ => rfl
      | 4, _ => rfl
      | 5, _ => rfl
      | 6, _ => rfl
      | 7, _ => rfl)) (Nat.le_refl _) (by omega)

end Go.Proofs.Ytdabcflpcklfiaa
