/-
  What the caller of Right does beside it: a list of its own with one number more behind its end is lent, and looked at and written over when it comes back.
-/
import Derived.Test.YtpdkojgepagbnaaDoorJ03
import Derived.Laws.CopyOwn
import Derived.Deep.OwnRows
namespace Go.Proofs.YtpdkojgepagbnaaDoor
open Go.RowKit Go.Deep

theorem info3 : (Tryd.prog.info? 3).map (fun i => (i.zero, i.size, i.bytes)) = some (some (.int .i64 0), 1, 8) := by kernel_rfl
theorem size3 : (Tryd.prog.info? 3).map (·.size) = some 1 := by kernel_rfl

def intCells (zs : List Int) : List Value := zs.map (.int .i64 ·)
def zeros (n : Nat) : List Value := List.replicate n (.int .i64 0)

theorem made_cells (n : Nat) : madeCells #[Value.int .i64 0] n = (zeros n).toArray := by
  have := toList_madeCells_one (.int .i64 0) n
  rw [zeros, ← this]

def copied (zs : List Int) : Array Value := (intCells zs ++ [Value.int .i64 0]).toArray
def lentCells (zs : List Int) : Array Value := (intCells (zs ++ [-77])).toArray
theorem lent_of (zs : List Int) : (copied zs).setIfInBounds zs.length (.int .i64 (-77)) = lentCells zs := by
  simp [copied, lentCells, intCells]
theorem copied_at (zs : List Int) (w : World) : (w.alloc (.cells (copied zs) 3)).cell? ⟨w.heap.size, zs.length, none⟩ = some (.int .i64 0) := by
  rw [World.cell?_alloc_new]
  simp [copied, intCells]
theorem copied_at' (zs : List Int) (w : World) (n : Nat) (hn : n = w.heap.size) : (w.alloc (.cells (copied zs) 3)).cell? ⟨n, zs.length, none⟩ = some (.int .i64 0) := by
  subst hn; exact copied_at zs w

theorem heap_alloc_new {g : Nat} (w : World) (o : Obj) (hg : g = w.heap.size) : (w.alloc o).heap[g]? = some o := by
  subst hg
  show (w.heap.push o)[w.heap.size]? = _
  simp

theorem setRow_alloc (w : World) (g : Nat) (c c' : Array Value) (t : TypeId) (hg : g = w.heap.size) : (w.alloc (.cells c t)).setRow g c' = w.alloc (.cells c' t) := by
  subst hg
  unfold World.setRow World.alloc
  congr 1
  apply Array.ext
  · simp
  · intro i h1 h2
    simp only [Array.getElem_modify, Array.getElem_push]
    split
    · next h => subst h; simp
    · next h =>
      have hi : i < w.heap.size := by simp at h2; omega
      simp [hi]

theorem run_copy_new (w : World) (g : Nat) (hg : g = w.heap.size) (a : Option Addr) (cap : Nat) (zs : List Int) (hs : SliceAt w a zs) :
    Sem.run Tryd.prog (Builtin.copy_ #[25, 25] 3 #[.slice (some ⟨g, 0, none⟩) (zs.length + 1) (zs.length + 1), .slice a zs.length cap]) (w.alloc (.cells (zeros (zs.length + 1)).toArray 3)) =
      .ok (goInt zs.length) (w.alloc (.cells (copied zs) 3)) := by
  by_cases h0 : zs.length = 0
  · have hnil : zs = [] := List.eq_nil_of_length_eq_zero h0
    subst hnil
    have := run_copy_none (P := Tryd.prog) (w.alloc (.cells (zeros (0 + 1)).toArray 3)) 25 25 3 3 (some ⟨g, 0, none⟩) a (0 + 1) (0 + 1) 0 cap Tryd.underlying25 size3 rfl
    simpa [copied, intCells, zeros] using this
  · obtain ⟨b, off, rfl, hr⟩ := hs (by omega)
    have hrow := run_copy_row (P := Tryd.prog) (w.alloc (.cells (zeros (zs.length + 1)).toArray 3)) 25 25 3 3 g 0 (zs.length + 1) (zs.length + 1) ⟨b, off, none⟩ zs.length cap (zeros (zs.length + 1)).toArray 3 (intCells zs)
      Tryd.underlying25 size3 (heap_alloc_new w _ hg) (by simp [intCells])
      (fun j v hv => by
        have hj : j < zs.length := by
          have := (List.getElem?_eq_some_iff.1 hv).1
          simpa [intCells] using this
        have hc := cell_later (below_alloc1 w (.cells (zeros (zs.length + 1)).toArray 3)) (hr j hj)
        have hv' : v = .int .i64 (zs.getD j 0) := by
          simp only [intCells, List.getElem?_map] at hv
          rw [List.getElem?_eq_getElem hj] at hv
          simp at hv
          rw [← hv, List.getD_eq_getElem?_getD, List.getElem?_eq_getElem hj]; rfl
        rw [hv']
        rw [Go.WideShapes.add_plain]
        exact hc)
      (by simp [intCells, zeros]) (by intro v hv; simp [intCells] at hv; obtain ⟨x, _, rfl⟩ := hv; rfl)
    rw [hrow, setRow_alloc _ _ _ _ _ hg]
    have e1 : (List.take 0 (zeros (zs.length + 1)).toArray.toList ++ intCells zs ++ List.drop (0 + (intCells zs).length) (zeros (zs.length + 1)).toArray.toList).toArray = copied zs := by
      simp [intCells, zeros, copied]
    rw [e1]
    simp [intCells]

set_option maxHeartbeats 1000000 in
theorem lent_any (a : Option Addr) (cap : Nat) (zs : List Int) (dr bu en wa : Int) (w : World) (hz : zs.length ≤ 17592186044416) (hs : SliceAt w a zs) :
    Calls Tryd.prog 30 #[.agg #[.slice a zs.length cap, .int .i64 dr, .int .i64 bu, .int .i64 en, .int .i64 wa]] w fun e w' =>
      ∃ B, e = .returned (.tuple #[.agg #[.slice (some ⟨B, 0, none⟩) zs.length (zs.length + 1), .int .i64 dr, .int .i64 bu, .int .i64 en, .int .i64 wa], .slice (some ⟨B, 0, none⟩) (zs.length + 1) (zs.length + 1)]) ∧
        Below w.heap.size w w' ∧ w.heap.size ≤ B ∧ w'.heap[B]? = some (.cells (intCells (zs ++ [-77])).toArray 3 (0, 0)) := by
  have hmk := run_make_row' (P := Tryd.prog) 25 3 (.int .i64 0) 8 Tryd.underlying25 info3 rfl .i64 .i64 (zs.length + 1) (by omega) (by omega)
  rw [made_cells, show ((zs.length + 1 : Nat) : Int) = (zs.length : Int) + 1 by omega] at hmk
  have hcp := fun o1 o2 => run_copy_new ((w.alloc o1).alloc o2) (w.heap.size + 1 + 1) (by simp) a cap zs ((hs.below (below_alloc1 w o1)).below (below_alloc1 _ o2))
  have hca := fun o1 o2 => copied_at' zs ((w.alloc o1).alloc o2) (w.heap.size + 1 + 1) (by simp)
  have hlo := lent_of zs
  go_enter Tryd.func30, Tryd.ntmps30
  go_wp2
  refine bodyPost_ret (v := .tuple #[.agg #[.slice (some ⟨w.heap.size + 1 + 1, 0, none⟩) zs.length (zs.length + 1), .int .i64 dr, .int .i64 bu, .int .i64 en, .int .i64 wa], .slice (some ⟨w.heap.size + 1 + 1, 0, none⟩) (zs.length + 1) (zs.length + 1)]) (by simp [results, Tryd.results30, go_sem]) rfl ⟨_, rfl, ?_, ?_, ?_⟩
  · exact ((((Below.refl _ _).alloc (Nat.le_refl _) _).alloc (by simp) _).alloc (by simp; omega) _).alloc (by simp; omega) _
  · omega
  · rw [Below.heap_alloc _ _ _ (by simp)]
    exact heap_alloc_new _ _ (by simp)

end Go.Proofs.YtpdkojgepagbnaaDoor
