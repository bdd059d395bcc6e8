import Derived.Test.YtdabcflpcklfiaaMb
/- A job uses one tick. -/
namespace Go.Proofs.Ytdabcflpcklfiaa
open Go.RowKit Cad

/-- The machine's cells, with other holders. -/
def mh (f : Nat → Value) (h : Nat → Int) (q : Nat) : Value := if 12 ≤ q ∧ q < 20 then .int .i64 (h (q - 12)) else f q

structure RunInv (w0 wr : World) (mb jb rb cap L t : Nat) (f : Nat → Value) (K : Nat → Int) (j : Jb) (v : Value) (h : Nat → Int) : Prop where
  mrow : wr.rowIs mb 135 22 (mh f h)
  jrow : wr.rowIs jb 142 7 (jcell t j (-1) v)
  srow : StepRow wr rb cap K j.N L
  fr : Fr (fun i => i = mb ∨ i = jb ∨ i = rb) w0 wr

def RestAt (rb cap L p : Nat) (v : Value) : Prop := (p < L → v = restV rb cap L p) ∧ (p = L → ∃ ao c, v = .slice ao 0 c)

theorem mh_set {wr : World} {mb : Nat} {f : Nat → Value} {h : Nat → Int} (hm : wr.rowIs mb 135 22 (mh f h)) {r : Nat} (hr : r < 8) (x : Int) : (wr.setCell ⟨mb, 12 + r, none⟩ (.int .i64 x)).rowIs mb 135 22 (mh f (upd h r x)) :=
  (hm.set (12 + r) (.int .i64 x)).congr (fun q hq => by
    show (if q = 12 + r then Value.int .i64 x else mh f h q) = _
    unfold mh upd
    by_cases e : q = 12 + r
    · rw [if_pos e, if_pos (by omega), if_pos (by omega)]
    · rw [if_neg e]
      by_cases c : 12 ≤ q ∧ q < 20
      · rw [if_pos c, if_pos c, if_neg (by omega)]
      · rw [if_neg c, if_neg c])

def restLen (jb : Nat) (wr : World) : Nat := match wr.cell? ⟨jb, 6, none⟩ with
  | some (.slice _ n _) => n
  | _ => 0

/-- What 'next' does where a job stands. -/
theorem next_at {w0 wr : World} {mb jb rb cap L t : Nat} {f : Nat → Value} {K : Nat → Int} {j : Jb} {h : Nat → Int} (hi : RunInv w0 wr mb jb rb cap L t f K j (restV rb cap L j.p) h) (hp : j.p < L) :
    Calls Try.prog 107 #[.pointer (some ⟨jb, 0, none⟩)] wr fun e w' => ∃ v, e = .returned (.agg #[.int .i64 (K j.p), .int .i64 (j.N j.p)]) ∧ RestAt rb cap L (j.p + 1) v ∧
      RunInv w0 w' mb jb rb cap L t f K { j with p := j.p + 1 } v h ∧ w'.cell? ⟨jb, 0, none⟩ = some (.int .i64 t) := by
  have hlc := hi.srow.1
  refine (next_any jb rb (j.p * 2) (L - j.p) (cap - j.p) _ (K j.p) (j.N j.p) wr (by omega) (by omega) (by rfl) hi.jrow (hi.srow.at0 hp) (hi.srow.at1 hp) hi.srow.lt).mono ?_
  rintro e w' ⟨rfl, hrow, hfr⟩
  obtain ⟨g, hg⟩ := hi.srow.row
  have hmj : mb ≠ jb := row_ne hi.mrow hi.jrow (by decide)
  have hrj : rb ≠ jb := row_ne hg hi.jrow (by decide)
  refine ⟨_, rfl, ?_, ⟨hfr.row hi.mrow hmj, hrow.congr (g := jcell t { j with p := j.p + 1 } (-1) (.slice (some ⟨rb, if cap - j.p = 1 then j.p * 2 else j.p * 2 + 2, none⟩) (L - j.p - 1) (cap - j.p - 1))) (fun q hq => ?_), hi.srow.of_block (hfr.block _ hi.srow.lt hrj), hi.fr.trans hfr (fun i hi => .inl (.inr (.inl hi)))⟩, ?_⟩
  · refine ⟨fun h1 => ?_, fun h1 => ⟨some ⟨rb, if cap - j.p = 1 then j.p * 2 else j.p * 2 + 2, none⟩, cap - j.p - 1, ?_⟩⟩
    · unfold restV
      rw [if_neg (by omega), show j.p * 2 + 2 = (j.p + 1) * 2 from by omega, show L - j.p - 1 = L - (j.p + 1) from by omega, show cap - j.p - 1 = cap - (j.p + 1) from by omega]
    · rw [show L - j.p - 1 = 0 from by omega]
  · unfold jcell
    match q, hq with
    | 0, _ => rfl
    | 1, _ => rfl
    | 2, _ => rfl
    | 3, _ => rfl
    | 4, _ => rfl
    | 5, _ => rfl
    | 6, _ => rfl
  · rw [hrow.cell (by omega)]; rfl

end Go.Proofs.Ytdabcflpcklfiaa
