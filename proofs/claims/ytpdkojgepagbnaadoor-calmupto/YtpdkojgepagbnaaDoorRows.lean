/-
  NARROWER THAN 'FOR EVERY INPUT', by the rows' own cells (each row's printed sentence says how): Wires: laid · Back: laid · Rights: laid · Calm: laid · Budgeted: laid · Honest: laid · Bounded: laid.
  DERIVED. THE GIVEN ROWS OF THIS SEAT. 7 by the template 'for every input the law returns true; each argument reads behind the call as it read before'; 0 by the template 'total and deterministic' (their statements: YtpdkojgepagbnaaDoorTotals.lean).
  GIVEN WITH THE SEED: the statements are not yours to turn. If you find one false, say at which input.
  Laid BY PROGRAM, IN A SANDBOX (cutbox-rows.mjs): the forced cells as the released guide's own fill.sh prints them over the translation 778e9fecb86f67c6… (all of the seat's roots in one cut). By AI agents, Wed Nov 11 2026. No macro, syntax, notation, axiom, sorry.
-/
import Derived.Test.YtpdkojgepagbnaaDoorChecked
import GoSem.Claim
import GoSem.ClaimJoined
import GoSem.ClaimMapViews
import Derived.JoinedTies
import Derived.KernelRfl
namespace Go.Proofs.YtpdkojgepagbnaaDoor
/- THE CELL 'sum', in the pinned program and in every row, IS THE sha256 OF THE DUMP (.gsa) THAT YtpdkojgepagbnaaDoorProg.lean LOADS. Nothing in Lean hashes anything: it is a label: what it is worth is what the hold of that sum in a sandbox is worth. -/
noncomputable def Tryd.pinned : Pinned := { name := "ytpdkojgepagbnaadoor", sum := "778e9fecb86f67c62c8b0722147742d4783c7c55ec52d2c85550284d4168ca7b", checked := Tryd.checked }
namespace Rows
def none {H : Type} : Left H := { results := [], args := [] }

/- WHAT THE LISTED PACKAGE-LEVEL VARIABLES READ AS WHEN THE CALL BEGINS. Each datum BY PROGRAM (the guide's laid-datum.mjs) off the statement by which the dump's own 'gosem.cut.vars' lays the variable. In a bare row this is a premise. The card (YtpdkojgepagbnaaDoorCards.lean) ties it to the program's text. -/
def laid_estuary_words_keyBytes {H : Type} : DataW H := .agg [.lit (.int .u64 0), .lit (.int .u64 576460743713488896), .lit (.int .u64 0), .lit (.int .u64 0)]
def laid_estuary_wire_kinds {H : Type} : DataW H := .agg [.agg [.lit (.int .i64 0), .lit (.int .i64 0), .lit (.int .i64 0), .lit (.int .i64 0)], .agg [.lit (.int .i64 (-1)), .lit (.int .i64 2147483647), .lit (.int .i64 0), .lit (.int .i64 0)], .agg [.lit (.int .i64 0), .lit (.int .i64 2147483647), .lit (.int .i64 281474976710655), .lit (.int .i64 1)], .agg [.lit (.int .i64 0), .lit (.int .i64 2147483647), .lit (.int .i64 281474976710655), .lit (.int .i64 0)], .agg [.lit (.int .i64 0), .lit (.int .i64 0), .lit (.int .i64 0), .lit (.int .i64 0)]]

/-- 'estuarylaw.Wires': WHATEVER THE INPUT: true; the input reads as it did. -/
def wiresSpec : ChangeSpec := { name := "wires", fn := fun _ => fun
  | [d1, d2] => { results := [.lit (.bool true)], args := [d1, d2] }
  | _ => none }
def wiresRow : OpenClaim := { program := "ytpdkojgepagbnaadoor", sum := "778e9fecb86f67c62c8b0722147742d4783c7c55ec52d2c85550284d4168ca7b", func := "estuary/estuarylaw.Wires", spec := "wires", named := ["estuary/wire.kinds", "estuary/words.keyBytes"], plainKeys := false, apart := false, laid := [("estuary/words.keyBytes", laid_estuary_words_keyBytes), ("estuary/wire.kinds", laid_estuary_wire_kinds)] }
def WiresSaid : Prop := wiresRow.holds Tryd.pinned (OpenSpec.ofChange wiresSpec)

/-- ITS FALSE NEIGHBOUR: 'it returns false'. Refute it at one input. -/
def wiresWrong : ChangeSpec := { name := "wires", fn := fun _ => fun
  | [d1, d2] => { results := [.lit (.bool false)], args := [d1, d2] }
  | _ => none }
def WiresWrongFalsely : Prop := wiresRow.holds Tryd.pinned (OpenSpec.ofChange wiresWrong)

/-- 'estuarykeep.Back': WHATEVER THE INPUT: true; the input reads as it did. -/
def backSpec : ChangeSpec := { name := "back", fn := fun _ => fun
  | [d1, d2, d3] => { results := [.lit (.bool true)], args := [d1, d2, d3] }
  | _ => none }
def backRow : OpenClaim := { program := "ytpdkojgepagbnaadoor", sum := "778e9fecb86f67c62c8b0722147742d4783c7c55ec52d2c85550284d4168ca7b", func := "estuary/estuarykeep.Back", spec := "back", named := ["estuary/wire.kinds", "estuary/words.keyBytes"], plainKeys := false, apart := false, laid := [("estuary/words.keyBytes", laid_estuary_words_keyBytes), ("estuary/wire.kinds", laid_estuary_wire_kinds)] }
def BackSaid : Prop := backRow.holds Tryd.pinned (OpenSpec.ofChange backSpec)

/-- ITS FALSE NEIGHBOUR: 'it returns false'. Refute it at one input. -/
def backWrong : ChangeSpec := { name := "back", fn := fun _ => fun
  | [d1, d2, d3] => { results := [.lit (.bool false)], args := [d1, d2, d3] }
  | _ => none }
def BackWrongFalsely : Prop := backRow.holds Tryd.pinned (OpenSpec.ofChange backWrong)

/-- 'estuarylaw.Rights': WHATEVER THE INPUT: true; the input reads as it did. -/
def rightsSpec : ChangeSpec := { name := "rights", fn := fun _ => fun
  | [d] => { results := [.lit (.bool true)], args := [d] }
  | _ => none }
def rightsRow : OpenClaim := { program := "ytpdkojgepagbnaadoor", sum := "778e9fecb86f67c62c8b0722147742d4783c7c55ec52d2c85550284d4168ca7b", func := "estuary/estuarylaw.Rights", spec := "rights", named := ["estuary/wire.kinds", "estuary/words.keyBytes"], plainKeys := false, apart := false, laid := [("estuary/words.keyBytes", laid_estuary_words_keyBytes), ("estuary/wire.kinds", laid_estuary_wire_kinds)] }
def RightsSaid : Prop := rightsRow.holds Tryd.pinned (OpenSpec.ofChange rightsSpec)

/-- ITS FALSE NEIGHBOUR: 'it returns false'. Refute it at one input. -/
def rightsWrong : ChangeSpec := { name := "rights", fn := fun _ => fun
  | [d] => { results := [.lit (.bool false)], args := [d] }
  | _ => none }
def RightsWrongFalsely : Prop := rightsRow.holds Tryd.pinned (OpenSpec.ofChange rightsWrong)

/-- 'estuarykeep.Calm': WHATEVER THE INPUT: true; the input reads as it did. -/
def calmSpec : ChangeSpec := { name := "calm", fn := fun _ => fun
  | [d1, d2] => { results := [.lit (.bool true)], args := [d1, d2] }
  | _ => none }
def calmRow : OpenClaim := { program := "ytpdkojgepagbnaadoor", sum := "778e9fecb86f67c62c8b0722147742d4783c7c55ec52d2c85550284d4168ca7b", func := "estuary/estuarykeep.Calm", spec := "calm", named := ["estuary/words.keyBytes"], plainKeys := false, apart := false, laid := [("estuary/words.keyBytes", laid_estuary_words_keyBytes)] }
def CalmSaid : Prop := calmRow.holds Tryd.pinned (OpenSpec.ofChange calmSpec)

/-- ITS FALSE NEIGHBOUR: 'it returns false'. Refute it at one input. -/
def calmWrong : ChangeSpec := { name := "calm", fn := fun _ => fun
  | [d1, d2] => { results := [.lit (.bool false)], args := [d1, d2] }
  | _ => none }
def CalmWrongFalsely : Prop := calmRow.holds Tryd.pinned (OpenSpec.ofChange calmWrong)

/-- 'estuarykeep.Budgeted': WHATEVER THE INPUT: true; the input reads as it did. -/
def budgetedSpec : ChangeSpec := { name := "budgeted", fn := fun _ => fun
  | [d1, d2] => { results := [.lit (.bool true)], args := [d1, d2] }
  | _ => none }
def budgetedRow : OpenClaim := { program := "ytpdkojgepagbnaadoor", sum := "778e9fecb86f67c62c8b0722147742d4783c7c55ec52d2c85550284d4168ca7b", func := "estuary/estuarykeep.Budgeted", spec := "budgeted", named := ["estuary/words.keyBytes"], plainKeys := false, apart := false, laid := [("estuary/words.keyBytes", laid_estuary_words_keyBytes)] }
def BudgetedSaid : Prop := budgetedRow.holds Tryd.pinned (OpenSpec.ofChange budgetedSpec)

/-- ITS FALSE NEIGHBOUR: 'it returns false'. Refute it at one input. -/
def budgetedWrong : ChangeSpec := { name := "budgeted", fn := fun _ => fun
  | [d1, d2] => { results := [.lit (.bool false)], args := [d1, d2] }
  | _ => none }
def BudgetedWrongFalsely : Prop := budgetedRow.holds Tryd.pinned (OpenSpec.ofChange budgetedWrong)

/-- 'estuarykeep.Honest': WHATEVER THE INPUT: true; the input reads as it did. -/
def honestSpec : ChangeSpec := { name := "honest", fn := fun _ => fun
  | [d1, d2, d3] => { results := [.lit (.bool true)], args := [d1, d2, d3] }
  | _ => none }
def honestRow : OpenClaim := { program := "ytpdkojgepagbnaadoor", sum := "778e9fecb86f67c62c8b0722147742d4783c7c55ec52d2c85550284d4168ca7b", func := "estuary/estuarykeep.Honest", spec := "honest", named := ["estuary/words.keyBytes"], plainKeys := false, apart := false, laid := [("estuary/words.keyBytes", laid_estuary_words_keyBytes)] }
def HonestSaid : Prop := honestRow.holds Tryd.pinned (OpenSpec.ofChange honestSpec)

/-- ITS FALSE NEIGHBOUR: 'it returns false'. Refute it at one input. -/
def honestWrong : ChangeSpec := { name := "honest", fn := fun _ => fun
  | [d1, d2, d3] => { results := [.lit (.bool false)], args := [d1, d2, d3] }
  | _ => none }
def HonestWrongFalsely : Prop := honestRow.holds Tryd.pinned (OpenSpec.ofChange honestWrong)

/-- 'estuarykeep.Bounded': WHATEVER THE INPUT: true; the input reads as it did. -/
def boundedSpec : ChangeSpec := { name := "bounded", fn := fun _ => fun
  | [d1, d2] => { results := [.lit (.bool true)], args := [d1, d2] }
  | _ => none }
def boundedRow : OpenClaim := { program := "ytpdkojgepagbnaadoor", sum := "778e9fecb86f67c62c8b0722147742d4783c7c55ec52d2c85550284d4168ca7b", func := "estuary/estuarykeep.Bounded", spec := "bounded", named := ["estuary/words.keyBytes"], plainKeys := false, apart := false, laid := [("estuary/words.keyBytes", laid_estuary_words_keyBytes)] }
def BoundedSaid : Prop := boundedRow.holds Tryd.pinned (OpenSpec.ofChange boundedSpec)

/-- ITS FALSE NEIGHBOUR: 'it returns false'. Refute it at one input. -/
def boundedWrong : ChangeSpec := { name := "bounded", fn := fun _ => fun
  | [d1, d2] => { results := [.lit (.bool false)], args := [d1, d2] }
  | _ => none }
def BoundedWrongFalsely : Prop := boundedRow.holds Tryd.pinned (OpenSpec.ofChange boundedWrong)

/- THE SECOND FORM. 'bulk': how many values and letters a reading holds, each counted each time it is reached (what is shared counts as often as it is met; a slice's spare places count too). A statement '..UptoSaid' is the law's where the arguments, and the package variables that the reading takes, are together of bulk at most 1048576: NARROWER than '..Said'. Prove '..Said' where nothing that the law and all that it calls make is longer than what came in: it says more and counts as full. Else prove '..UptoSaid'. A law counts once. -/
mutual
def uptoBulk {H : Type} : DataW H → Nat
  | .lit (.string bytes) => bytes.length + 1
  | .lit _ => 1
  | .nil => 1
  | .ptr d => uptoBulk d + 1
  | .slice elems spare => uptoBulkAll elems + uptoBulkAll spare + 1
  | .agg parts => uptoBulkAll parts + 1
  | .iface _ d => uptoBulk d + 1
  | .map entries => uptoBulkEntries entries + 1
  | .held _ => 1
def uptoBulkAll {H : Type} : List (DataW H) → Nat
  | [] => 0
  | d :: r => uptoBulk d + uptoBulkAll r
def uptoBulkEntries {H : Type} : List (Lit × DataW H) → Nat
  | [] => 0
  | x :: r => uptoBulkEntry x + uptoBulkEntries r
def uptoBulkEntry {H : Type} : Lit × DataW H → Nat
  | (.string bytes, d) => bytes.length + uptoBulk d + 1
  | (_, d) => uptoBulk d + 1
 end
def uptoSmall : (H : Type) → List (DataW H) → Bool := fun _ ds => decide (uptoBulkAll ds ≤ 1048576)
def OpenSpec.upto (s : _root_.Go.ChangeSpec) : _root_.Go.OpenSpec := { _root_.Go.OpenSpec.ofChange s with cond := some uptoSmall }

/-- 'estuarylaw.Wires', WHERE WHAT IT READS IS OF BULK AT MOST 1048576: true; the input reads as it did. -/
def wiresUptoRow : OpenClaim := { program := "ytpdkojgepagbnaadoor", sum := "778e9fecb86f67c62c8b0722147742d4783c7c55ec52d2c85550284d4168ca7b", func := "estuary/estuarylaw.Wires", spec := "wires", named := ["estuary/wire.kinds", "estuary/words.keyBytes"], plainKeys := false, apart := false, laid := [("estuary/words.keyBytes", laid_estuary_words_keyBytes), ("estuary/wire.kinds", laid_estuary_wire_kinds)], narrowed := true }
def WiresUptoSaid : Prop := wiresUptoRow.holds Tryd.pinned (OpenSpec.upto wiresSpec)

/-- 'estuarykeep.Back', WHERE WHAT IT READS IS OF BULK AT MOST 1048576: true; the input reads as it did. -/
def backUptoRow : OpenClaim := { program := "ytpdkojgepagbnaadoor", sum := "778e9fecb86f67c62c8b0722147742d4783c7c55ec52d2c85550284d4168ca7b", func := "estuary/estuarykeep.Back", spec := "back", named := ["estuary/wire.kinds", "estuary/words.keyBytes"], plainKeys := false, apart := false, laid := [("estuary/words.keyBytes", laid_estuary_words_keyBytes), ("estuary/wire.kinds", laid_estuary_wire_kinds)], narrowed := true }
def BackUptoSaid : Prop := backUptoRow.holds Tryd.pinned (OpenSpec.upto backSpec)

/-- 'estuarylaw.Rights', WHERE WHAT IT READS IS OF BULK AT MOST 1048576: true; the input reads as it did. -/
def rightsUptoRow : OpenClaim := { program := "ytpdkojgepagbnaadoor", sum := "778e9fecb86f67c62c8b0722147742d4783c7c55ec52d2c85550284d4168ca7b", func := "estuary/estuarylaw.Rights", spec := "rights", named := ["estuary/wire.kinds", "estuary/words.keyBytes"], plainKeys := false, apart := false, laid := [("estuary/words.keyBytes", laid_estuary_words_keyBytes), ("estuary/wire.kinds", laid_estuary_wire_kinds)], narrowed := true }
def RightsUptoSaid : Prop := rightsUptoRow.holds Tryd.pinned (OpenSpec.upto rightsSpec)

/-- 'estuarykeep.Calm', WHERE WHAT IT READS IS OF BULK AT MOST 1048576: true; the input reads as it did. -/
def calmUptoRow : OpenClaim := { program := "ytpdkojgepagbnaadoor", sum := "778e9fecb86f67c62c8b0722147742d4783c7c55ec52d2c85550284d4168ca7b", func := "estuary/estuarykeep.Calm", spec := "calm", named := ["estuary/words.keyBytes"], plainKeys := false, apart := false, laid := [("estuary/words.keyBytes", laid_estuary_words_keyBytes)], narrowed := true }
def CalmUptoSaid : Prop := calmUptoRow.holds Tryd.pinned (OpenSpec.upto calmSpec)

/-- 'estuarykeep.Budgeted', WHERE WHAT IT READS IS OF BULK AT MOST 1048576: true; the input reads as it did. -/
def budgetedUptoRow : OpenClaim := { program := "ytpdkojgepagbnaadoor", sum := "778e9fecb86f67c62c8b0722147742d4783c7c55ec52d2c85550284d4168ca7b", func := "estuary/estuarykeep.Budgeted", spec := "budgeted", named := ["estuary/words.keyBytes"], plainKeys := false, apart := false, laid := [("estuary/words.keyBytes", laid_estuary_words_keyBytes)], narrowed := true }
def BudgetedUptoSaid : Prop := budgetedUptoRow.holds Tryd.pinned (OpenSpec.upto budgetedSpec)

/-- 'estuarykeep.Honest', WHERE WHAT IT READS IS OF BULK AT MOST 1048576: true; the input reads as it did. -/
def honestUptoRow : OpenClaim := { program := "ytpdkojgepagbnaadoor", sum := "778e9fecb86f67c62c8b0722147742d4783c7c55ec52d2c85550284d4168ca7b", func := "estuary/estuarykeep.Honest", spec := "honest", named := ["estuary/words.keyBytes"], plainKeys := false, apart := false, laid := [("estuary/words.keyBytes", laid_estuary_words_keyBytes)], narrowed := true }
def HonestUptoSaid : Prop := honestUptoRow.holds Tryd.pinned (OpenSpec.upto honestSpec)

/-- 'estuarykeep.Bounded', WHERE WHAT IT READS IS OF BULK AT MOST 1048576: true; the input reads as it did. -/
def boundedUptoRow : OpenClaim := { program := "ytpdkojgepagbnaadoor", sum := "778e9fecb86f67c62c8b0722147742d4783c7c55ec52d2c85550284d4168ca7b", func := "estuary/estuarykeep.Bounded", spec := "bounded", named := ["estuary/words.keyBytes"], plainKeys := false, apart := false, laid := [("estuary/words.keyBytes", laid_estuary_words_keyBytes)], narrowed := true }
def BoundedUptoSaid : Prop := boundedUptoRow.holds Tryd.pinned (OpenSpec.upto boundedSpec)

end Rows
end Go.Proofs.YtpdkojgepagbnaaDoor
