/-
  No cell of these rows narrows 'for every input' (looked for: loops, veiled, ifaces, maps, wideKeys, modest, calm, conditions, laid).
  DERIVED. THE GIVEN ROWS OF THIS SEAT. 7 by the template 'for every input the law returns true; each argument reads behind the call as it read before'; 0 by the template 'total and deterministic' (their statements: YtdabcflpcklfiaaTotals.lean).
  GIVEN WITH THE SEED: the statements are not yours to turn. If you find one false, say at which input.
  Laid BY PROGRAM, IN A SANDBOX (cutbox-rows.mjs): the forced cells as the released guide's own fill.sh prints them over the translation 5cd92010aa07d0f7… (all of the seat's roots in one cut). By AI agents, Wed Nov 11 2026. No macro, syntax, notation, axiom, sorry.
-/
import Derived.Test.YtdabcflpcklfiaaChecked
import GoSem.Claim
import GoSem.ClaimJoined
import GoSem.ClaimMapViews
import Derived.JoinedTies
import Derived.KernelRfl
namespace Go.Proofs.Ytdabcflpcklfiaa
/- THE CELL 'sum', in the pinned program and in every row, IS THE sha256 OF THE DUMP (.gsa) THAT YtdabcflpcklfiaaProg.lean LOADS. Nothing in Lean hashes anything: it is a label: what it is worth is what the hold of that sum in a sandbox is worth. -/
noncomputable def Try.pinned : Pinned := { name := "ytdabcflpcklfiaa", sum := "5cd92010aa07d0f76cd6908dafb98c98bf0d1fbcd6fbd112e5e9cb15ab975874", checked := Try.checked }
namespace Rows
def none {H : Type} : Left H := { results := [], args := [] }

/-- 'cadencelaw.Checks': WHATEVER THE INPUT: true; the input reads as it did. -/
def checksSpec : ChangeSpec := { name := "checks", fn := fun _ => fun
  | [d] => { results := [.lit (.bool true)], args := [d] }
  | _ => none }
def checksRow : OpenClaim := { program := "ytdabcflpcklfiaa", sum := "5cd92010aa07d0f76cd6908dafb98c98bf0d1fbcd6fbd112e5e9cb15ab975874", func := "cadence/cadencelaw.Checks", spec := "checks", plainKeys := false, apart := false }
def ChecksSaid : Prop := checksRow.holds Try.pinned (OpenSpec.ofChange checksSpec)

/-- ITS FALSE NEIGHBOUR: 'it returns false'. Refute it at one input. -/
def checksWrong : ChangeSpec := { name := "checks", fn := fun _ => fun
  | [d] => { results := [.lit (.bool false)], args := [d] }
  | _ => none }
def ChecksWrongFalsely : Prop := checksRow.holds Try.pinned (OpenSpec.ofChange checksWrong)

/-- 'cadencelaw.Analyzed': WHATEVER THE INPUT: true; the input reads as it did. -/
def analyzedSpec : ChangeSpec := { name := "analyzed", fn := fun _ => fun
  | [d1, d2] => { results := [.lit (.bool true)], args := [d1, d2] }
  | _ => none }
def analyzedRow : OpenClaim := { program := "ytdabcflpcklfiaa", sum := "5cd92010aa07d0f76cd6908dafb98c98bf0d1fbcd6fbd112e5e9cb15ab975874", func := "cadence/cadencelaw.Analyzed", spec := "analyzed", plainKeys := false, apart := false }
def AnalyzedSaid : Prop := analyzedRow.holds Try.pinned (OpenSpec.ofChange analyzedSpec)

/-- ITS FALSE NEIGHBOUR: 'it returns false'. Refute it at one input. -/
def analyzedWrong : ChangeSpec := { name := "analyzed", fn := fun _ => fun
  | [d1, d2] => { results := [.lit (.bool false)], args := [d1, d2] }
  | _ => none }
def AnalyzedWrongFalsely : Prop := analyzedRow.holds Try.pinned (OpenSpec.ofChange analyzedWrong)

/-- 'cadencelaw.Assigned': WHATEVER THE INPUT: true; the input reads as it did. -/
def assignedSpec : ChangeSpec := { name := "assigned", fn := fun _ => fun
  | [d] => { results := [.lit (.bool true)], args := [d] }
  | _ => none }
def assignedRow : OpenClaim := { program := "ytdabcflpcklfiaa", sum := "5cd92010aa07d0f76cd6908dafb98c98bf0d1fbcd6fbd112e5e9cb15ab975874", func := "cadence/cadencelaw.Assigned", spec := "assigned", recurses := true, plainKeys := false, apart := false }
def AssignedSaid : Prop := assignedRow.holds Try.pinned (OpenSpec.ofChange assignedSpec)

/-- ITS FALSE NEIGHBOUR: 'it returns false'. Refute it at one input. -/
def assignedWrong : ChangeSpec := { name := "assigned", fn := fun _ => fun
  | [d] => { results := [.lit (.bool false)], args := [d] }
  | _ => none }
def AssignedWrongFalsely : Prop := assignedRow.holds Try.pinned (OpenSpec.ofChange assignedWrong)

/-- 'cadencekeep.Found': WHATEVER THE INPUT: true; the input reads as it did. -/
def foundSpec : ChangeSpec := { name := "found", fn := fun _ => fun
  | [d] => { results := [.lit (.bool true)], args := [d] }
  | _ => none }
def foundRow : OpenClaim := { program := "ytdabcflpcklfiaa", sum := "5cd92010aa07d0f76cd6908dafb98c98bf0d1fbcd6fbd112e5e9cb15ab975874", func := "cadence/cadencekeep.Found", spec := "found", inPlace := ["(*internal/sync.Mutex).Lock", "internal/race.Disable", "sync/atomic.CompareAndSwapInt32", "internal/race.Enable", "internal/race.Acquire", "(*internal/sync.Mutex).lockSlow", "internal/sync.runtime_canSpin", "internal/sync.runtime_doSpin", "internal/sync.throw", "internal/sync.runtime_nanotime", "internal/sync.runtime_SemacquireMutex", "sync/atomic.AddInt32", "(*internal/sync.Mutex).Unlock", "internal/race.ReleaseMerge", "(*internal/sync.Mutex).unlockSlow", "internal/sync.fatal", "internal/sync.runtime_Semrelease"], recurses := true, plainKeys := false, apart := false }
def FoundSaid : Prop := foundRow.holds Try.pinned (OpenSpec.ofChange foundSpec)

/-- ITS FALSE NEIGHBOUR: 'it returns false'. Refute it at one input. -/
def foundWrong : ChangeSpec := { name := "found", fn := fun _ => fun
  | [d] => { results := [.lit (.bool false)], args := [d] }
  | _ => none }
def FoundWrongFalsely : Prop := foundRow.holds Try.pinned (OpenSpec.ofChange foundWrong)

/-- 'cadencekeep.Watched': WHATEVER THE INPUT: true; the input reads as it did. -/
def watchedSpec : ChangeSpec := { name := "watched", fn := fun _ => fun
  | [d1, d2, d3] => { results := [.lit (.bool true)], args := [d1, d2, d3] }
  | _ => none }
def watchedRow : OpenClaim := { program := "ytdabcflpcklfiaa", sum := "5cd92010aa07d0f76cd6908dafb98c98bf0d1fbcd6fbd112e5e9cb15ab975874", func := "cadence/cadencekeep.Watched", spec := "watched", inPlace := ["(*internal/sync.Mutex).Lock", "internal/race.Disable", "sync/atomic.CompareAndSwapInt32", "internal/race.Enable", "internal/race.Acquire", "(*internal/sync.Mutex).lockSlow", "internal/sync.runtime_canSpin", "internal/sync.runtime_doSpin", "internal/sync.throw", "internal/sync.runtime_nanotime", "internal/sync.runtime_SemacquireMutex", "sync/atomic.AddInt32", "(*internal/sync.Mutex).Unlock", "internal/race.ReleaseMerge", "(*internal/sync.Mutex).unlockSlow", "internal/sync.fatal", "internal/sync.runtime_Semrelease"], plainKeys := false, apart := false }
def WatchedSaid : Prop := watchedRow.holds Try.pinned (OpenSpec.ofChange watchedSpec)

/-- ITS FALSE NEIGHBOUR: 'it returns false'. Refute it at one input. -/
def watchedWrong : ChangeSpec := { name := "watched", fn := fun _ => fun
  | [d1, d2, d3] => { results := [.lit (.bool false)], args := [d1, d2, d3] }
  | _ => none }
def WatchedWrongFalsely : Prop := watchedRow.holds Try.pinned (OpenSpec.ofChange watchedWrong)

/-- 'cadencekeep.InTime': WHATEVER THE INPUT: true; the input reads as it did. -/
def inTimeSpec : ChangeSpec := { name := "inTime", fn := fun _ => fun
  | [d1, d2, d3] => { results := [.lit (.bool true)], args := [d1, d2, d3] }
  | _ => none }
def inTimeRow : OpenClaim := { program := "ytdabcflpcklfiaa", sum := "5cd92010aa07d0f76cd6908dafb98c98bf0d1fbcd6fbd112e5e9cb15ab975874", func := "cadence/cadencekeep.InTime", spec := "inTime", inPlace := ["(*internal/sync.Mutex).Lock", "internal/race.Disable", "sync/atomic.CompareAndSwapInt32", "internal/race.Enable", "internal/race.Acquire", "(*internal/sync.Mutex).lockSlow", "internal/sync.runtime_canSpin", "internal/sync.runtime_doSpin", "internal/sync.throw", "internal/sync.runtime_nanotime", "internal/sync.runtime_SemacquireMutex", "sync/atomic.AddInt32", "(*internal/sync.Mutex).Unlock", "internal/race.ReleaseMerge", "(*internal/sync.Mutex).unlockSlow", "internal/sync.fatal", "internal/sync.runtime_Semrelease"], unfollowed := true, recurses := true, plainKeys := false, apart := false }
def InTimeSaid : Prop := inTimeRow.holds Try.pinned (OpenSpec.ofChange inTimeSpec)

/-- ITS FALSE NEIGHBOUR: 'it returns false'. Refute it at one input. -/
def inTimeWrong : ChangeSpec := { name := "inTime", fn := fun _ => fun
  | [d1, d2, d3] => { results := [.lit (.bool false)], args := [d1, d2, d3] }
  | _ => none }
def InTimeWrongFalsely : Prop := inTimeRow.holds Try.pinned (OpenSpec.ofChange inTimeWrong)

/-- 'cadencekeep.Reached': WHATEVER THE INPUT: true; the input reads as it did. -/
def reachedSpec : ChangeSpec := { name := "reached", fn := fun _ => fun
  | [d1, d2] => { results := [.lit (.bool true)], args := [d1, d2] }
  | _ => none }
def reachedRow : OpenClaim := { program := "ytdabcflpcklfiaa", sum := "5cd92010aa07d0f76cd6908dafb98c98bf0d1fbcd6fbd112e5e9cb15ab975874", func := "cadence/cadencekeep.Reached", spec := "reached", inPlace := ["(*internal/sync.Mutex).Lock", "internal/race.Disable", "sync/atomic.CompareAndSwapInt32", "internal/race.Enable", "internal/race.Acquire", "(*internal/sync.Mutex).lockSlow", "internal/sync.runtime_canSpin", "internal/sync.runtime_doSpin", "internal/sync.throw", "internal/sync.runtime_nanotime", "internal/sync.runtime_SemacquireMutex", "sync/atomic.AddInt32", "(*internal/sync.Mutex).Unlock", "internal/race.ReleaseMerge", "(*internal/sync.Mutex).unlockSlow", "internal/sync.fatal", "internal/sync.runtime_Semrelease"], plainKeys := false, apart := false }
def ReachedSaid : Prop := reachedRow.holds Try.pinned (OpenSpec.ofChange reachedSpec)

/-- ITS FALSE NEIGHBOUR: 'it returns false'. Refute it at one input. -/
def reachedWrong : ChangeSpec := { name := "reached", fn := fun _ => fun
  | [d1, d2] => { results := [.lit (.bool false)], args := [d1, d2] }
  | _ => none }
def ReachedWrongFalsely : Prop := reachedRow.holds Try.pinned (OpenSpec.ofChange reachedWrong)

/- THE SECOND FORM. 'bulk': how many values and letters a reading holds, each counted each time it is reached (what is shared counts as often as it is met; a slice's spare places count too). A statement '..UptoSaid' is the law's where the arguments, and the package variables that the reading takes, are together of bulk at most 1048576: NARROWER than '..Said'. Prove '..Said' where nothing that the law and all that it calls make is longer than what came in: it says more and counts as full. Else prove '..UptoSaid'. A law counts once. -/
mutual
def uptoBulk {H : Type} : DataW H → Nat
  | .lit (.string bytes) => bytes.length + 1
  | .lit _ => 1
  | .nil => 1
  | .ptr d => uptoBulk d + 1
  | .slice elems spare => uptoBulkAll elems + uptoBulkAll spare + 1
  | .agg parts => uptoBulkAll parts + 1
  | .iface _ d => uptoBulk d + 1
  | .map entries => uptoBulkEntries entries + 1
  | .held _ => 1
def uptoBulkAll {H : Type} : List (DataW H) → Nat
  | [] => 0
  | d :: r => uptoBulk d + uptoBulkAll r
def uptoBulkEntries {H : Type} : List (Lit × DataW H) → Nat
  | [] => 0
  | x :: r => uptoBulkEntry x + uptoBulkEntries r
def uptoBulkEntry {H : Type} : Lit × DataW H → Nat
  | (.string bytes, d) => bytes.length + uptoBulk d + 1
  | (_, d) => uptoBulk d + 1
 end
def uptoSmall : (H : Type) → List (DataW H) → Bool := fun _ ds => decide (uptoBulkAll ds ≤ 1048576)
def OpenSpec.upto (s : _root_.Go.ChangeSpec) : _root_.Go.OpenSpec := { _root_.Go.OpenSpec.ofChange s with cond := some uptoSmall }

/-- 'cadencelaw.Checks', WHERE WHAT IT READS IS OF BULK AT MOST 1048576: true; the input reads as it did. -/
def checksUptoRow : OpenClaim := { program := "ytdabcflpcklfiaa", sum := "5cd92010aa07d0f76cd6908dafb98c98bf0d1fbcd6fbd112e5e9cb15ab975874", func := "cadence/cadencelaw.Checks", spec := "checks", plainKeys := false, apart := false, narrowed := true }
def ChecksUptoSaid : Prop := checksUptoRow.holds Try.pinned (OpenSpec.upto checksSpec)

/-- 'cadencelaw.Analyzed', WHERE WHAT IT READS IS OF BULK AT MOST 1048576: true; the input reads as it did. -/
def analyzedUptoRow : OpenClaim := { program := "ytdabcflpcklfiaa", sum := "5cd92010aa07d0f76cd6908dafb98c98bf0d1fbcd6fbd112e5e9cb15ab975874", func := "cadence/cadencelaw.Analyzed", spec := "analyzed", plainKeys := false, apart := false, narrowed := true }
def AnalyzedUptoSaid : Prop := analyzedUptoRow.holds Try.pinned (OpenSpec.upto analyzedSpec)

/-- 'cadencelaw.Assigned', WHERE WHAT IT READS IS OF BULK AT MOST 1048576: true; the input reads as it did. -/
def assignedUptoRow : OpenClaim := { program := "ytdabcflpcklfiaa", sum := "5cd92010aa07d0f76cd6908dafb98c98bf0d1fbcd6fbd112e5e9cb15ab975874", func := "cadence/cadencelaw.Assigned", spec := "assigned", recurses := true, plainKeys := false, apart := false, narrowed := true }
def AssignedUptoSaid : Prop := assignedUptoRow.holds Try.pinned (OpenSpec.upto assignedSpec)

/-- 'cadencekeep.Found', WHERE WHAT IT READS IS OF BULK AT MOST 1048576: true; the input reads as it did. -/
def foundUptoRow : OpenClaim := { program := "ytdabcflpcklfiaa", sum := "5cd92010aa07d0f76cd6908dafb98c98bf0d1fbcd6fbd112e5e9cb15ab975874", func := "cadence/cadencekeep.Found", spec := "found", inPlace := ["(*internal/sync.Mutex).Lock", "internal/race.Disable", "sync/atomic.CompareAndSwapInt32", "internal/race.Enable", "internal/race.Acquire", "(*internal/sync.Mutex).lockSlow", "internal/sync.runtime_canSpin", "internal/sync.runtime_doSpin", "internal/sync.throw", "internal/sync.runtime_nanotime", "internal/sync.runtime_SemacquireMutex", "sync/atomic.AddInt32", "(*internal/sync.Mutex).Unlock", "internal/race.ReleaseMerge", "(*internal/sync.Mutex).unlockSlow", "internal/sync.fatal", "internal/sync.runtime_Semrelease"], recurses := true, plainKeys := false, apart := false, narrowed := true }
def FoundUptoSaid : Prop := foundUptoRow.holds Try.pinned (OpenSpec.upto foundSpec)

/-- 'cadencekeep.Watched', WHERE WHAT IT READS IS OF BULK AT MOST 1048576: true; the input reads as it did. -/
def watchedUptoRow : OpenClaim := { program := "ytdabcflpcklfiaa", sum := "5cd92010aa07d0f76cd6908dafb98c98bf0d1fbcd6fbd112e5e9cb15ab975874", func := "cadence/cadencekeep.Watched", spec := "watched", inPlace := ["(*internal/sync.Mutex).Lock", "internal/race.Disable", "sync/atomic.CompareAndSwapInt32", "internal/race.Enable", "internal/race.Acquire", "(*internal/sync.Mutex).lockSlow", "internal/sync.runtime_canSpin", "internal/sync.runtime_doSpin", "internal/sync.throw", "internal/sync.runtime_nanotime", "internal/sync.runtime_SemacquireMutex", "sync/atomic.AddInt32", "(*internal/sync.Mutex).Unlock", "internal/race.ReleaseMerge", "(*internal/sync.Mutex).unlockSlow", "internal/sync.fatal", "internal/sync.runtime_Semrelease"], plainKeys := false, apart := false, narrowed := true }
def WatchedUptoSaid : Prop := watchedUptoRow.holds Try.pinned (OpenSpec.upto watchedSpec)

/-- 'cadencekeep.InTime', WHERE WHAT IT READS IS OF BULK AT MOST 1048576: true; the input reads as it did. -/
def inTimeUptoRow : OpenClaim := { program := "ytdabcflpcklfiaa", sum := "5cd92010aa07d0f76cd6908dafb98c98bf0d1fbcd6fbd112e5e9cb15ab975874", func := "cadence/cadencekeep.InTime", spec := "inTime", inPlace := ["(*internal/sync.Mutex).Lock", "internal/race.Disable", "sync/atomic.CompareAndSwapInt32", "internal/race.Enable", "internal/race.Acquire", "(*internal/sync.Mutex).lockSlow", "internal/sync.runtime_canSpin", "internal/sync.runtime_doSpin", "internal/sync.throw", "internal/sync.runtime_nanotime", "internal/sync.runtime_SemacquireMutex", "sync/atomic.AddInt32", "(*internal/sync.Mutex).Unlock", "internal/race.ReleaseMerge", "(*internal/sync.Mutex).unlockSlow", "internal/sync.fatal", "internal/sync.runtime_Semrelease"], unfollowed := true, recurses := true, plainKeys := false, apart := false, narrowed := true }
def InTimeUptoSaid : Prop := inTimeUptoRow.holds Try.pinned (OpenSpec.upto inTimeSpec)

/-- 'cadencekeep.Reached', WHERE WHAT IT READS IS OF BULK AT MOST 1048576: true; the input reads as it did. -/
def reachedUptoRow : OpenClaim := { program := "ytdabcflpcklfiaa", sum := "5cd92010aa07d0f76cd6908dafb98c98bf0d1fbcd6fbd112e5e9cb15ab975874", func := "cadence/cadencekeep.Reached", spec := "reached", inPlace := ["(*internal/sync.Mutex).Lock", "internal/race.Disable", "sync/atomic.CompareAndSwapInt32", "internal/race.Enable", "internal/race.Acquire", "(*internal/sync.Mutex).lockSlow", "internal/sync.runtime_canSpin", "internal/sync.runtime_doSpin", "internal/sync.throw", "internal/sync.runtime_nanotime", "internal/sync.runtime_SemacquireMutex", "sync/atomic.AddInt32", "(*internal/sync.Mutex).Unlock", "internal/race.ReleaseMerge", "(*internal/sync.Mutex).unlockSlow", "internal/sync.fatal", "internal/sync.runtime_Semrelease"], plainKeys := false, apart := false, narrowed := true }
def ReachedUptoSaid : Prop := reachedUptoRow.holds Try.pinned (OpenSpec.upto reachedSpec)

end Rows
end Go.Proofs.Ytdabcflpcklfiaa
