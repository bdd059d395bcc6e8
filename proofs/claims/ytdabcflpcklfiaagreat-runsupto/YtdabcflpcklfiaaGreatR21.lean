import Derived.Test.YtdabcflpcklfiaaGreatR20
import Derived.Deep.RegionWith
import Derived.Laws.Tables
namespace Go.Proofs.YtdabcflpcklfiaaGreat
open Go.RowKit

theorem row_lit (w : World) (c : Array Value) (t : TypeId) (g n : Nat) (f : Nat → Value) (hg : g = w.heap.size) (hn : c.size = n) (hc : ∀ i, i < n → c[i]? = some (f i)) : (w.alloc (.cells c t)).rowIs g t n f := by
  subst hg hn
  exact World.rowIs_alloc w c t f hc

end Go.Proofs.YtdabcflpcklfiaaGreat
