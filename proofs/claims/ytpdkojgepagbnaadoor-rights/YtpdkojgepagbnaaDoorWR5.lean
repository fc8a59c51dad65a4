/-
  The statement Rights, as a call: it answers true at every configuration, and turns nothing that was there.
-/
import Derived.Test.YtpdkojgepagbnaaDoorWR4
namespace Go.Proofs.YtpdkojgepagbnaaDoor
open Go.RowKit Go.Deep

/-- The cells of a step whose Kind is KRight, as they lie in memory. -/
def opCells (a : Option Addr) (n cap : Nat) (dr bu en wa : Int) : Array Value := #[.int .i64 2, .int .i64 0, .int .i64 0, .int .i64 0, .string ⟨#[]⟩, .string ⟨#[]⟩, .slice a n cap, .int .i64 dr, .int .i64 bu, .int .i64 en, .int .i64 wa,
  .int .i64 0, .int .i64 0, .int .i64 0, .string ⟨#[]⟩, .int .i64 0, .int .i64 0, .int .i64 0, .int .i64 0, .string ⟨#[]⟩]

theorem sliceAt_lent {w : World} {B : Nat} {zs : List Int} (h : w.heap[B]? = some (.cells (lentCells zs) 3 (0, 0))) : SliceAt w (some ⟨B, 0, none⟩) zs :=
  fun _ => ⟨B, 0, rfl, fun j hj => by rw [Nat.zero_add]; exact cell_of_heap h (lent_get hj)⟩

/-- The five cells of the configuration in the step. -/
theorem op_conf {w wk : World} {a : Option Addr} {n cap : Nat} {dr bu en wa : Int} (h : Below (w.heap.size + 1) (w.alloc (.cells (opCells a n cap dr bu en wa) 29)) wk) :
    wk.cell? ⟨w.heap.size, 6, none⟩ = some (.slice a n cap) ∧ wk.cell? ⟨w.heap.size, 7, none⟩ = some (.int .i64 dr) ∧ wk.cell? ⟨w.heap.size, 8, none⟩ = some (.int .i64 bu) ∧
      wk.cell? ⟨w.heap.size, 9, none⟩ = some (.int .i64 en) ∧ wk.cell? ⟨w.heap.size, 10, none⟩ = some (.int .i64 wa) := by
  refine ⟨?_, ?_, ?_, ?_, ?_⟩
  all_goals
    rw [h.cell (by simp), World.cell?_alloc_new]
    rfl

set_option maxHeartbeats 1000000 in
theorem plainRight_any (a : Option Addr) (cap : Nat) (zs : List Int) (dr bu en wa : Int) (w : World) (hz : zs.length ≤ 17592186044416) (hs : SliceAt w a zs) :
    Calls Tryd.prog 10 #[.agg #[.int .i64 2, .int .i64 0, .int .i64 0, .int .i64 0, .string ⟨#[]⟩, .string ⟨#[]⟩, .slice a zs.length cap, .int .i64 dr, .int .i64 bu, .int .i64 en, .int .i64 wa,
      .int .i64 0, .int .i64 0, .int .i64 0, .string ⟨#[]⟩, .int .i64 0, .int .i64 0, .int .i64 0, .int .i64 0, .string ⟨#[]⟩]] w fun e w' => e = .returned (.bool true) ∧ Below w.heap.size w w' := by
  have hml : zs.length ≤ maxLen := by unfold maxLen; omega
  go_enter Tryd.func10, Tryd.ntmps10
  go_wp2_with fail
  refine (lent_any a cap zs dr bu en wa _ hz (hs.below (below_alloc1 w _))).mono ?_
  rintro e w1 ⟨B, rfl, hb1, hB1, hlent⟩
  rw [World.size_alloc] at hB1
  have hBlt : B < w1.heap.size := (Array.getElem?_eq_some_iff.1 hlent).1
  have hb01 := hb1.mono (B' := w.heap.size + 1) (by simp)
  clear hb1
  have HL := hide hlent
  clear hlent
  have hb01' : Below (w.heap.size + 1) (w.alloc (.cells (opCells a zs.length cap dr bu en wa) 29)) w1 := hb01
  clear hb01
  have hsz1 : w.heap.size + 1 ≤ w1.heap.size := by have := hb01'.size; simpa using this
  go_wp2_with fail
  refine (right_any (some ⟨B, 0, none⟩) (zs.length + 1) zs dr bu en wa _ hml (sliceAt_lent (by rw [Below.heap_alloc _ _ _ hBlt]; exact unhide HL))).mono ?_
  rintro e w3 ⟨rfl, hb3⟩
  rw [World.size_alloc] at hb3
  have hb13 : Below w1.heap.size w1 w3 := (below_alloc1 w1 _).trans (hb3.mono (by simp))
  clear hb3
  have hb03 := hb01'.trans (hb13.mono hsz1)
  have hbw3 : Below w.heap.size w w3 := (below_alloc1 w _).trans (hb03.mono (by simp))
  have hs3 := hs.below hbw3
  have HL3 : Hid (w3.heap[B]? = some (.cells (lentCells zs) 3 (0, 0))) := by show _ = _; rw [hb13.block B hBlt]; exact unhide HL
  obtain ⟨c6, c7, c8, c9, c10⟩ := op_conf hb03
  clear HL hb13
  go_wp2_with fail
  refine (back_any a cap zs dr bu en wa _ B hz hs3 (unhide HL3)).mono ?_
  rintro e w4 ⟨rfl, hb4⟩
  have hb04 := hb03.trans (hb4.mono hB1)
  have hbw4 : Below w.heap.size w w4 := hbw3.trans (hb4.mono (by omega))
  have hs4 := hs.below hbw4
  clear c6 c7 c8 c9 c10 hb4 HL3 hs3 hb03 hbw3
  obtain ⟨c6, c7, c8, c9, c10⟩ := op_conf hb04
  go_wp2_with fail
  refine (refRight_any a cap zs dr bu en wa _ hml hs4).mono ?_
  rintro e w5 ⟨rfl, hb5⟩
  have hbw5 : Below w.heap.size w w5 := hbw4.trans (hb5.mono hbw4.size)
  clear c6 c7 c8 c9 c10 hb5 hb04 hs4 hbw4
  generalize errOf (confB zs dr bu en wa) = n at *
  go_wp2_with (go_at_call 15; refine (num_any _ _).mono ?_; rintro e w' ⟨rfl, rfl⟩)
  go_ret
  exact ⟨rfl, hbw5⟩

set_option maxHeartbeats 1000000 in
theorem rights_any (a : Option Addr) (cap : Nat) (zs : List Int) (dr bu en wa : Int) (w : World) (hz : zs.length ≤ 17592186044416) (hs : SliceAt w a zs) :
    Calls Tryd.prog 5 #[.agg #[.slice a zs.length cap, .int .i64 dr, .int .i64 bu, .int .i64 en, .int .i64 wa]] w fun e w' => e = .returned (.bool true) ∧ Below w.heap.size w w' := by
  go_enter Tryd.func5, Tryd.ntmps5
  go_wp2_with fail
  refine (right_any none 0 [] 0 0 0 0 _ (by simp) (fun h => by simp at h)).mono ?_
  rintro e w1 ⟨rfl, hb1⟩
  have hb1' := (below_alloc1 w _).trans (hb1.mono (by simp))
  have hself := cell_later hb1 (a := ⟨w.heap.size, 0, none⟩) (World.cell?_alloc_new ..)
  have hself1 := cell_later hb1 (a := ⟨w.heap.size, 1, none⟩) (World.cell?_alloc_new ..)
  have hself2 := cell_later hb1 (a := ⟨w.heap.size, 2, none⟩) (World.cell?_alloc_new ..)
  have hself3 := cell_later hb1 (a := ⟨w.heap.size, 3, none⟩) (World.cell?_alloc_new ..)
  have hself4 := cell_later hb1 (a := ⟨w.heap.size, 4, none⟩) (World.cell?_alloc_new ..)
  clear hb1
  have hs1 := hs.below hb1'
  have hno : errOf (confB [] 0 0 0 0) = 1 := by decide
  rw [hno]
  go_wp2_with (first | (go_at_call 15; refine (num_any _ _).mono ?_; rintro e w' ⟨rfl, rfl⟩) | (go_at_call 10; refine (plainRight_any a cap zs dr bu en wa _ hz hs1).mono ?_; rintro e w5 ⟨rfl, hb5⟩))
  go_ret
  exact ⟨rfl, hb1'.trans (hb5.mono hb1'.size)⟩

end Go.Proofs.YtpdkojgepagbnaaDoor
