/-
  A raw configuration, a script and readings, opened; what their bulk bounds; the listed variable's cells.
-/
import Derived.Test.YtpdkojgepagbnaaDoorCards
import Derived.Test.YtpdkojgepagbnaaDoorJ27
import Derived.Test.YtpdkojgepagbnaaDoorJ03
import Derived.ProofKit
import Derived.OpenShut
import Derived.Deep.Slices
import Derived.Lib.SmallJoins
import Derived.Lib.LaidTab
namespace Go.Proofs.YtpdkojgepagbnaaDoor.opens
set_option maxRecDepth 100000
open Go.ChangeShapes Go.WideShapes Go.ChangeAt Go.RowKit

theorem one_le {H : Type} (d : DataW H) : 1 ≤ Rows.uptoBulk d := by
  cases d with
  | lit l => cases l <;> simp [Rows.uptoBulk]
  | nil => simp [Rows.uptoBulk]
  | ptr d => simp [Rows.uptoBulk]
  | slice elems spare => simp [Rows.uptoBulk]
  | agg parts => simp [Rows.uptoBulk]
  | iface t d => simp [Rows.uptoBulk]
  | map entries => simp [Rows.uptoBulk]
  | held h => simp [Rows.uptoBulk]
theorem part_le {H : Type} {d : DataW H} {l : List (DataW H)} (h : d ∈ l) : Rows.uptoBulk d ≤ Rows.uptoBulkAll l := by
  induction l with
  | nil => cases h
  | cons x r ih =>
    simp only [Rows.uptoBulkAll]
    cases List.mem_cons.1 h with
    | inl e => subst e; omega
    | inr e => have := ih e; omega
theorem length_le {H : Type} (l : List (DataW H)) : l.length ≤ Rows.uptoBulkAll l := by
  induction l with
  | nil => simp [Rows.uptoBulkAll]
  | cons x r ih => have := one_le x; simp only [Rows.uptoBulkAll, List.length_cons]; omega
theorem slice_le {H : Type} (elems spare : List (DataW H)) : elems.length ≤ Rows.uptoBulk (.slice elems spare) := by
  have h1 := length_le elems
  simp only [Rows.uptoBulk]
  omega
theorem agg_le {H : Type} {d : DataW H} {l : List (DataW H)} (h : d ∈ l) : Rows.uptoBulk d ≤ Rows.uptoBulk (.agg l) := by
  have := part_le h
  simp only [Rows.uptoBulk]
  omega
theorem bound {H : Type} {l : List (DataW H)} (hk : Rows.uptoSmall H l = true) : Rows.uptoBulkAll l ≤ 1048576 := of_decide_eq_true hk

theorem cellsL : Tryd.prog.cellsOf 25 = 1 := by kernel_rfl
theorem cellsN : Tryd.prog.cellsOf 3 = 1 := by kernel_rfl
theorem cellsS : Tryd.prog.cellsOf 9 = 1 := by kernel_rfl
theorem cellsC : Tryd.prog.cellsOf 27 = 5 := by kernel_rfl
theorem cellsP : Tryd.prog.cellsOf 45 = 4 := by kernel_rfl

theorem array5 {cs : Array Value} (h : cs.size = 5) : ∃ c0 c1 c2 c3 c4, cs = #[c0, c1, c2, c3, c4] := by
  obtain ⟨l⟩ := cs
  match l, h with
  | [c0, c1, c2, c3, c4], _ => exact ⟨c0, c1, c2, c3, c4, rfl⟩

variable {H : Type} {enc : TypeId × Value → H} {W : World}

/-- Numbers in a row. -/
theorem ints_of {n : Nat} {c : Value} {y : DataW H × List MemPlace} (h : DataW.trod enc Tryd.prog W 0 (fun _ => true) true n 25 [c] = some y) :
    ∃ (a : Option Addr) (cap : Nat) (zs : List Int), c = .slice a zs.length cap ∧ SliceAt W a zs ∧ (∀ z ∈ zs, I64 z) ∧ zs.length ≤ Rows.uptoBulk y.1 := by
  rcases open_ints Tryd.underlying25 Tryd.underlying3 cellsN h with ⟨hcs, _⟩ | ⟨a, len, cap, zs, hcs, _, hl, hm, hz, hy, hcell, hwf⟩
  · simp only [List.cons.injEq, and_true] at hcs
    subst hcs
    exact ⟨none, 0, [], rfl, fun h => by simp at h, fun z hz => by (cases hz), by simp⟩
  · simp only [List.cons.injEq, and_true] at hcs
    subst hcs
    have hz' : zs.length = cap := by simpa using hz
    have hlt : (zs.take len).length = len := by rw [List.length_take]; omega
    refine ⟨some a, cap, zs.take len, by rw [hlt], ?_, fun z hz => bounds_i64 (hwf z (List.mem_of_mem_take hz)), ?_⟩
    · intro hp
      obtain ⟨b, off, rfl, hc⟩ := ints_at hcell (by omega)
      refine ⟨b, off, rfl, fun j hj => ?_⟩
      have hj' : j < len := by omega
      rw [hc j (by omega), List.getD_eq_getElem?_getD, List.getD_eq_getElem?_getD, List.getElem?_take_of_lt hj']
    · have := slice_le (lits (H := H) .i64 (zs.take len)) (lits (H := H) .i64 (zs.drop len))
      rw [hy]
      simpa [lits] using this

/-- A raw configuration. -/
theorem conf_of {r : Reach} {b0 : Nat} {v : Value} {d : DataW H} {p : List MemPlace} (hv : Value.okWide Tryd.prog W r b0 27 v) (h : DataW.Trod enc Tryd.prog W 0 (fun _ => true) true 27 v d p) :
    ∃ (a : Option Addr) (cap : Nat) (zs : List Int) (dr bu en wa : Int), v = .agg #[.slice a zs.length cap, .int .i64 dr, .int .i64 bu, .int .i64 en, .int .i64 wa] ∧ SliceAt W a zs ∧ (∀ z ∈ zs, I64 z) ∧ (I64 dr ∧ I64 bu ∧ I64 en ∧ I64 wa) ∧ zs.length ≤ Rows.uptoBulk d := by
  obtain ⟨cs, rfl, hsz⟩ := okWide_struct Tryd.underlying27 hv
  obtain ⟨c0, c1, c2, c3, c4, rfl⟩ := array5 (hsz.trans cellsC)
  obtain ⟨fuel, hf⟩ := h
  obtain ⟨xs, n, _, hx, _, hlen, hfl⟩ := DataW.trod_struct Tryd.underlying27 hf
  obtain ⟨y0, y1, y2, y3, y4, rfl⟩ : ∃ y0 y1 y2 y3 y4, xs = [y0, y1, y2, y3, y4] := by
    match xs, hlen with
    | [y0, y1, y2, y3, y4], _ => exact ⟨y0, y1, y2, y3, y4, rfl⟩
  have f0 : DataW.trod enc Tryd.prog W 0 (fun _ => true) true n 25 [c0] = some y0 := by simpa [cellsL, Value.cells] using hfl 0 _ rfl
  have f1 : DataW.trod enc Tryd.prog W 0 (fun _ => true) true n 3 [c1] = some y1 := by simpa [cellsN, Value.cells] using hfl 1 _ rfl
  have f2 : DataW.trod enc Tryd.prog W 0 (fun _ => true) true n 3 [c2] = some y2 := by simpa [cellsN, Value.cells] using hfl 2 _ rfl
  have f3 : DataW.trod enc Tryd.prog W 0 (fun _ => true) true n 3 [c3] = some y3 := by simpa [cellsN, Value.cells] using hfl 3 _ rfl
  have f4 : DataW.trod enc Tryd.prog W 0 (fun _ => true) true n 3 [c4] = some y4 := by simpa [cellsN, Value.cells] using hfl 4 _ rfl
  clear hfl
  obtain ⟨dr, e1, _, w1⟩ := DataW.trod_int Tryd.underlying3 f1
  obtain ⟨bu, e2, _, w2⟩ := DataW.trod_int Tryd.underlying3 f2
  obtain ⟨en, e3, _, w3⟩ := DataW.trod_int Tryd.underlying3 f3
  obtain ⟨wa, e4, _, w4⟩ := DataW.trod_int Tryd.underlying3 f4
  simp only [List.cons.injEq, and_true] at e1 e2 e3 e4
  subst e1 e2 e3 e4
  have hd : d = .agg [y0.1, y1.1, y2.1, y3.1, y4.1] := by simpa using congrArg Prod.fst hx
  obtain ⟨a, cap, zs, rfl, h1, h2, h3⟩ := ints_of f0
  exact ⟨a, cap, zs, dr, bu, en, wa, rfl, h1, h2, ⟨bounds_i64 w1, bounds_i64 w2, bounds_i64 w3, bounds_i64 w4⟩, Nat.le_trans h3 (by rw [hd]; exact agg_le List.mem_cons_self)⟩

/-- One step. -/
theorem step_of {n : Nat} {a : Addr} {cs : List Value} {x : DataW H × List MemPlace} (h1 : W.cells? 0 a 4 = some cs) (h2 : DataW.trod enc Tryd.prog W 0 (fun _ => true) true n 45 cs = some x) :
    ∃ o : StepD, (W.cell? (a.add 0) = some (.int .i64 o.kind) ∧ W.cell? (a.add 1) = some (.int .i64 o.a) ∧ W.cell? (a.add 2) = some (.int .i64 o.b) ∧ W.cell? (a.add 3) = some (.string o.s)) ∧ (I64 o.a ∧ I64 o.b ∧ I64 o.kind ∧ o.s.size ≤ maxLen) := by
  obtain ⟨_, hlen, hc⟩ := World.cells?_some h1
  match cs, hlen with
  | [c0, c1, c2, c3], _ =>
    obtain ⟨y0, y1, y2, y3, m, _, _, f0, f1, f2, f3⟩ := Joins.trod_struct4 Tryd.underlying45 h2
    simp only [cellsN, cellsS, List.drop_zero, List.drop_succ_cons, List.take_succ_cons, List.take_zero] at f0 f1 f2 f3
    obtain ⟨kd, e0, _, w0⟩ := DataW.trod_int Tryd.underlying3 f0
    obtain ⟨oa, e1, _, w1⟩ := DataW.trod_int Tryd.underlying3 f1
    obtain ⟨ob, e2, _, w2⟩ := DataW.trod_int Tryd.underlying3 f2
    obtain ⟨os, e3, _, w3⟩ := DataW.trod_string Tryd.underlying9 f3
    simp only [List.cons.injEq, and_true] at e0 e1 e2 e3
    subst e0 e1 e2 e3
    exact ⟨⟨kd, oa, ob, os⟩, ⟨hc 0 (by omega), hc 1 (by omega), hc 2 (by omega), hc 3 (by omega)⟩, bounds_i64 w1, bounds_i64 w2, bounds_i64 w0, w3⟩

/-- A script. -/
theorem script_of {n : Nat} {c : Value} {y : DataW H × List MemPlace} (h : DataW.trod enc Tryd.prog W 0 (fun _ => true) true n 41 [c] = some y) :
    ∃ (a : Option Addr) (cap : Nat) (l : List StepD), c = .slice a l.length cap ∧ ScriptAt W a l ∧ l.length ≤ Rows.uptoBulk y.1 := by
  rcases Go.Deep.open_slice Tryd.underlying41 h with ⟨hcs, _⟩ | ⟨a, len, cap, m, k, D, Pl, hcs, _, hl, hm, hmm, rfl, hx⟩
  · simp only [List.cons.injEq, and_true] at hcs
    subst hcs
    exact ⟨none, 0, [], rfl, ⟨fun j o h => by simp at h, fun o h => by (cases h)⟩, by simp⟩
  · simp only [List.cons.injEq, and_true] at hcs
    subst hcs
    have hmm : m = cap := hmm
    have one : ∀ i, i < len → ∃ o : StepD, (W.cell? ((a.add (i * 4)).add 0) = some (.int .i64 o.kind) ∧ W.cell? ((a.add (i * 4)).add 1) = some (.int .i64 o.a) ∧ W.cell? ((a.add (i * 4)).add 2) = some (.int .i64 o.b) ∧ W.cell? ((a.add (i * 4)).add 3) = some (.string o.s)) ∧ (I64 o.a ∧ I64 o.b ∧ I64 o.kind ∧ o.s.size ≤ maxLen) := fun i hi => by
      obtain ⟨cs', h1, h2⟩ := hx i (by omega)
      rw [cellsP] at h1
      exact step_of h1 h2
    have pick : ∃ O : Nat → StepD, ∀ i, i < len → (W.cell? ((a.add (i * 4)).add 0) = some (.int .i64 (O i).kind) ∧ W.cell? ((a.add (i * 4)).add 1) = some (.int .i64 (O i).a) ∧ W.cell? ((a.add (i * 4)).add 2) = some (.int .i64 (O i).b) ∧ W.cell? ((a.add (i * 4)).add 3) = some (.string (O i).s)) ∧ (I64 (O i).a ∧ I64 (O i).b ∧ I64 (O i).kind ∧ (O i).s.size ≤ maxLen) := by
      refine ⟨fun i => if h : i < len then Classical.choose (one i h) else ⟨0, 0, 0, .empty⟩, fun i hi => ?_⟩
      dsimp only
      rw [dif_pos hi]
      exact Classical.choose_spec (one i hi)
    obtain ⟨O, hO⟩ := pick
    have hlen : ((List.range len).map O).length = len := by simp
    refine ⟨some a, cap, (List.range len).map O, by rw [hlen], ⟨fun j o hj => ?_, fun o ho => ?_⟩, ?_⟩
    · have hjl : j < len := by
        have := (List.getElem?_eq_some_iff.1 hj).1
        omega
      have ho : O j = o := by simpa [hjl] using hj
      subst ho
      obtain ⟨⟨c0, c1, c2, c3⟩, _⟩ := hO j hjl
      obtain ⟨b, off, spot⟩ := a
      have hspot : spot = none := by simpa [Addr.add] using World.cell?_spot (hO 0 (by omega)).1.1
      subst hspot
      simp only [add_plain, Nat.add_zero] at c0 c1 c2 c3
      exact ⟨b, off, rfl, c0, c1, c2, c3⟩
    · obtain ⟨i, hi, rfl⟩ := List.mem_map.1 ho
      exact (hO i (List.mem_range.1 hi)).2
    · have := slice_le ((List.range len).map D) ((List.range (m - len)).map fun j => D (len + j))
      rw [hlen]
      simpa using this

theorem gKey : Tryd.prog.globalNamed Rows.budgetedRow.laid[0].1 = some 1 := by kernel_rfl
theorem gKeyType : (Tryd.prog.globals[1]?).map (·.type) = some 168 := by kernel_rfl
theorem cells4 : Tryd.prog.cellsOf 168 = 4 := by kernel_rfl
theorem cellsU : Tryd.prog.cellsOf 167 = 1 := by kernel_rfl
theorem keyTab_of (h : laidMetH Tryd.prog Rows.budgetedRow.laid W) : KeyTab W := by
  have ht : Lib.TabIs Tryd.prog W Rows.budgetedRow.laid[0].1 .u64 [0, 576460743713488896, 0, 0] :=
    Lib.tabIs_of_head (rest := []) gKey gKeyType Tryd.underlying168 Tryd.underlying167 cellsU cells4 h
  exact ⟨ht.cell gKey 0 (by decide), ht.cell gKey 1 (by decide), ht.cell gKey 2 (by decide), ht.cell gKey 3 (by decide)⟩

end Go.Proofs.YtpdkojgepagbnaaDoor.opens
