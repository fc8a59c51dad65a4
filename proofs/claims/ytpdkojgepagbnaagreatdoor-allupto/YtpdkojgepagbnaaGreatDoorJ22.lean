/-
  What a caller who knows the origin's past finds of an answer: that it was the origin's, from a time on.
  The other calls on a tier as plain data: clocks, timeouts, crashes; who is counted.
-/
import Derived.Test.YtpdkojgepagbnaaGreatDoorJ01
set_option maxRecDepth 100000
set_option maxHeartbeats 8000000
namespace Go.Proofs.YtpdkojgepagbnaaGreatDoor.Tier
end Go.Proofs.YtpdkojgepagbnaaGreatDoor.Tier
set_option maxRecDepth 100000
set_option maxHeartbeats 8000000
namespace Go.Proofs.YtpdkojgepagbnaaGreatDoor.Tier
def St.tick (t:St) (n:Nat) (c:Int):St:=t.setCac n { t.cac n with clock:=c }
def St.crash (t:St) (n:Nat):St:=t.setCac n ⟨(t.cac n).clock,[],[]⟩
def St.timeout (t:St) (n:Nat) (k:ByteArray):St:=match t.fetch n k with
  | none=>t
  | some f=>(t.over n k).refuseAll n k f.l
def St.timeoutE (t:St) (n:Nat) (k:ByteArray):Int:=if (t.fetch n k).isSome then 0 else 8
theorem better_key (t:St) (n:Nat) (m:Mes) (b:Int):(t.better n m b).key=m.key:=by
  unfold St.better
  split
  ·next e he =>
   have hk:e.key=m.key:=of_decide_eq_true (find_mem he).2
   split
   ·rfl
   ·split
    ·exact hk
    ·exact hk
  ·rfl
end Go.Proofs.YtpdkojgepagbnaaGreatDoor.Tier
