/-
  A memory in which the two listed package variables hold what their initialisers lay: for the one input that a row must show to exist.
-/
import Derived.Test.YtpdkojgepagbnaaGreatDoorRows
namespace Go.Proofs.YtpdkojgepagbnaaGreatDoor
set_option maxRecDepth 100000
set_option maxHeartbeats 8000000
section
def lay (cs:Array Value):Obj→Obj
  | .cells _ t frozen=> .cells cs t frozen
  | o=>o
def kindsCells:Array Value:=#[.int .i64 0,.int .i64 0,.int .i64 0,.int .i64 0,.int .i64 (-1),.int .i64 2147483647,.int .i64 0,.int .i64 0,.int .i64 0,.int .i64 2147483647,.int .i64 281474976710655,.int .i64 1,
  .int .i64 0,.int .i64 2147483647,.int .i64 281474976710655,.int .i64 0,.int .i64 0,.int .i64 0,.int .i64 0,.int .i64 0]
def keyCells:Array Value:=#[.int .u64 0,.int .u64 576460743713488896,.int .u64 0,.int .u64 0]
def laidHeap (h:Array Obj):Array Obj:=(h.modify 0 (lay kindsCells)).modify 1 (lay keyCells)
end
end Go.Proofs.YtpdkojgepagbnaaGreatDoor
