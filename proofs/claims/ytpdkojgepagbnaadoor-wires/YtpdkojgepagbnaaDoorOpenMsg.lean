/-
  A message, opened: nine cells, each read.
-/
import Derived.Test.YtpdkojgepagbnaaDoorWW2
import Derived.ProofKit
import Derived.OpenShut
namespace Go.Proofs.YtpdkojgepagbnaaDoor
set_option maxRecDepth 100000
open Go.ChangeShapes Go.WideShapes Go.ChangeAt Go.RowKit

theorem cells23 : Tryd.prog.cellsOf 23 = 9 := by kernel_rfl
theorem cells9 : Tryd.prog.cellsOf 9 = 1 := by kernel_rfl
theorem cellsI : Tryd.prog.cellsOf 3 = 1 := by kernel_rfl

theorem array9 {cs : Array Value} (h : cs.size = 9) : ∃ c0 c1 c2 c3 c4 c5 c6 c7 c8, cs = #[c0, c1, c2, c3, c4, c5, c6, c7, c8] := by
  obtain ⟨l⟩ := cs
  match l, h with
  | [c0, c1, c2, c3, c4, c5, c6, c7, c8], _ => exact ⟨c0, c1, c2, c3, c4, c5, c6, c7, c8, rfl⟩

theorem open_msg {H : Type} {enc : TypeId × Value → H} {W : World} {r : Reach} {b0 : Nat} {v : Value} {d : DataW H} {p : List MemPlace} (hv : Value.okWide Tryd.prog W r b0 23 v) (h : DataW.Trod enc Tryd.prog W 0 (fun _ => true) true 23 v d p) :
    ∃ m : Msg, v = .agg #[.int .i64 m.kind, .int .i64 m.frm, .int .i64 m.to, .string m.key, .int .i64 m.serial, .int .i64 m.version, .int .i64 m.age, .int .i64 m.present, .string m.value] ∧ m.key.size ≤ maxLen ∧ m.value.size ≤ maxLen ∧
      (Lit.int .i64 m.frm).wf = true ∧ (Lit.int .i64 m.to).wf = true ∧ (Lit.int .i64 m.serial).wf = true ∧ (Lit.int .i64 m.version).wf = true ∧ (Lit.int .i64 m.age).wf = true := by
  obtain ⟨cs, rfl, hsz⟩ := okWide_struct Tryd.underlying23 hv
  obtain ⟨c0, c1, c2, c3, c4, c5, c6, c7, c8, rfl⟩ := array9 (hsz.trans cells23)
  obtain ⟨fuel, hf⟩ := h
  obtain ⟨xs, n, _, hx, _, hlen, hfl⟩ := DataW.trod_struct Tryd.underlying23 hf
  obtain ⟨y0, y1, y2, y3, y4, y5, y6, y7, y8, rfl⟩ : ∃ y0 y1 y2 y3 y4 y5 y6 y7 y8, xs = [y0, y1, y2, y3, y4, y5, y6, y7, y8] := by
    match xs, hlen with
    | [y0, y1, y2, y3, y4, y5, y6, y7, y8], _ => exact ⟨y0, y1, y2, y3, y4, y5, y6, y7, y8, rfl⟩
  have f0 : DataW.trod enc Tryd.prog W 0 (fun _ => true) true n 3 [c0] = some y0 := by simpa [cellsI, Value.cells] using hfl 0 _ rfl
  have f1 : DataW.trod enc Tryd.prog W 0 (fun _ => true) true n 3 [c1] = some y1 := by simpa [cellsI, Value.cells] using hfl 1 _ rfl
  have f2 : DataW.trod enc Tryd.prog W 0 (fun _ => true) true n 3 [c2] = some y2 := by simpa [cellsI, Value.cells] using hfl 2 _ rfl
  have f3 : DataW.trod enc Tryd.prog W 0 (fun _ => true) true n 9 [c3] = some y3 := by simpa [cells9, Value.cells] using hfl 3 _ rfl
  have f4 : DataW.trod enc Tryd.prog W 0 (fun _ => true) true n 3 [c4] = some y4 := by simpa [cellsI, Value.cells] using hfl 4 _ rfl
  have f5 : DataW.trod enc Tryd.prog W 0 (fun _ => true) true n 3 [c5] = some y5 := by simpa [cellsI, Value.cells] using hfl 5 _ rfl
  have f6 : DataW.trod enc Tryd.prog W 0 (fun _ => true) true n 3 [c6] = some y6 := by simpa [cellsI, Value.cells] using hfl 6 _ rfl
  have f7 : DataW.trod enc Tryd.prog W 0 (fun _ => true) true n 3 [c7] = some y7 := by simpa [cellsI, Value.cells] using hfl 7 _ rfl
  have f8 : DataW.trod enc Tryd.prog W 0 (fun _ => true) true n 9 [c8] = some y8 := by simpa [cells9, Value.cells] using hfl 8 _ rfl
  obtain ⟨kd, e0, _, w0⟩ := DataW.trod_int Tryd.underlying3 f0
  obtain ⟨fr, e1, _, w1⟩ := DataW.trod_int Tryd.underlying3 f1
  obtain ⟨tt, e2, _, w2⟩ := DataW.trod_int Tryd.underlying3 f2
  obtain ⟨key, e3, _, w3⟩ := DataW.trod_string Tryd.underlying9 f3
  obtain ⟨se, e4, _, w4⟩ := DataW.trod_int Tryd.underlying3 f4
  obtain ⟨ve, e5, _, w5⟩ := DataW.trod_int Tryd.underlying3 f5
  obtain ⟨ag, e6, _, w6⟩ := DataW.trod_int Tryd.underlying3 f6
  obtain ⟨pr, e7, _, w7⟩ := DataW.trod_int Tryd.underlying3 f7
  obtain ⟨vl, e8, _, w8⟩ := DataW.trod_string Tryd.underlying9 f8
  simp only [List.cons.injEq, and_true] at e0 e1 e2 e3 e4 e5 e6 e7 e8
  subst e0 e1 e2 e3 e4 e5 e6 e7 e8
  exact ⟨⟨kd, fr, tt, key, se, ve, ag, pr, vl⟩, rfl, w3, w8, w1, w2, w4, w5, w6⟩

end Go.Proofs.YtpdkojgepagbnaaDoor
