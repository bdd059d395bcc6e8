import Derived.Test.YtdabcflpcklfiaaGreatA01
import Derived.Test.YtdabcflpcklfiaaGreatA26
import Derived.Deep.RegionHeld
/- A step's job arrives, if it may. -/
namespace Go.Proofs.YtdabcflpcklfiaaGreat
open Go.RowKit Cad

theorem box4 (w : World) (a b c d : Value) (t : Nat) : (w.alloc (.cells #[a, b, c, d] t)).rowIs w.heap.size t 4 (fun q => if q = 0 then a else if q = 1 then b else if q = 2 then c else d) :=
  World.rowIs_alloc w #[a, b, c, d] t _ (fun i hi => by
    have hi' : i < 4 := hi
    match i, hi' with
    | 0, _ => rfl
    | 1, _ => rfl
    | 2, _ => rfl
    | 3, _ => rfl)

end Go.Proofs.YtdabcflpcklfiaaGreat
