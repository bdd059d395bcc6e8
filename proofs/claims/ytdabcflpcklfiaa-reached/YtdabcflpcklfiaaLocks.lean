/- The numbers under which this program holds the library's locks' functions and types, and that it holds them. -/
import Derived.Test.YtdabcflpcklfiaaProg
import Derived.Conc.RwLib
import Derived.Conc.MuData
import Derived.KernelRfl
namespace Go.Proofs.Ytdabcflpcklfiaa
abbrev Try.muLink : Go.Conc.Locks.MuLink := { lock := 52, unlock := 53, ilock := 73, iunlock := 74, lockSlow := 101, unlockSlow := 104, disable := 97, enable := 99, acquire := 100, relMerge := 102, cas32 := 98, add32 := 103, tMutex := 106, tIMutex := 104, tPMutex := 130, tPIMutex := 161, tPI32 := 163, tUP := 165, tNoCopy := 101, tU32 := 102 }
theorem Try.muLib : Go.Conc.Locks.MuLib Try.prog Try.muLink :=
  ⟨Try.func52, Try.func53, Try.func73, Try.func74, Try.func97, Try.func99, Try.func100, Try.func102, Try.func98, Try.func103, Try.underlying104, Try.runUnderlying104, Try.sizeOf104, Try.isAgg104, Try.zeroValue104, Try.underlying106, Try.runUnderlying106, Try.sizeOf106, Try.isAgg106, Try.zeroValue106, Try.underlying130, Try.runUnderlying130, Try.sizeOf130, Try.isAgg130, Try.zeroValue130, Try.underlying161, Try.runUnderlying161, Try.sizeOf161, Try.isAgg161, Try.zeroValue161, Try.underlying163, Try.runUnderlying163, Try.sizeOf163, Try.isAgg163, Try.zeroValue163, Try.underlying165, Try.runUnderlying165, Try.sizeOf165, Try.isAgg165, Try.zeroValue165, Try.underlying101, Try.runUnderlying101, Try.sizeOf101, Try.isAgg101, Try.zeroValue101, Try.underlying21, Try.runUnderlying21, Try.sizeOf21, Try.isAgg21, Try.zeroValue21, (by kernel_rfl)⟩
end Go.Proofs.Ytdabcflpcklfiaa
