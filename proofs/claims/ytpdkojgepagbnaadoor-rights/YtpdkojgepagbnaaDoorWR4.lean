/-
  What the caller does with the list when it comes back: it reads as it was lent; then the caller writes over it.
-/
import Derived.Test.YtpdkojgepagbnaaDoorWR3
namespace Go.Proofs.YtpdkojgepagbnaaDoor
open Go.RowKit Go.Deep

theorem cell_of_heap {w : World} {B j : Nat} {cs : Array Value} {t : TypeId} {v : Value} (h : w.heap[B]? = some (.cells cs t (0, 0))) (hv : cs[j]? = some v) : w.cell? ⟨B, j, none⟩ = some v := by
  simp [World.cell?, h, hv]
theorem frozen_of_heap {w : World} {B j : Nat} {cs : Array Value} {t : TypeId} (h : w.heap[B]? = some (.cells cs t (0, 0))) : w.frozen? ⟨B, j, none⟩ = false := by
  simp [World.frozen?, h]
theorem lent_get {zs : List Int} {j : Nat} (h : j < zs.length) : (lentCells zs)[j]? = some (.int .i64 (zs.getD j 0)) := by
  simp [lentCells, intCells, List.getElem?_append, h]
theorem lent_last (zs : List Int) : (lentCells zs)[zs.length]? = some (.int .i64 (-77)) := by
  simp [lentCells, intCells]

/-- A row of so many ints. -/
def IntsRow (w : World) (B n : Nat) : Prop := ∃ cs : Array Value, w.heap[B]? = some (.cells cs 3 (0, 0)) ∧ ∀ j, j < n → ∃ v, cs[j]? = some (.int .i64 v)

theorem IntsRow.at {w : World} {B n j : Nat} (h : IntsRow w B n) (hj : j < n) : (∃ v, w.cell? ⟨B, j, none⟩ = some (.int .i64 v)) ∧ w.frozen? ⟨B, j, none⟩ = false := by
  obtain ⟨cs, hc, hv⟩ := h
  obtain ⟨v, hv⟩ := hv j hj
  exact ⟨⟨v, cell_of_heap hc hv⟩, frozen_of_heap hc⟩

theorem IntsRow.set {w : World} {B n j : Nat} (h : IntsRow w B n) (x : Int) : IntsRow (w.setCell ⟨B, j, none⟩ (.int .i64 x)) B n := by
  obtain ⟨cs, hc, hv⟩ := h
  refine ⟨cs.setIfInBounds j (.int .i64 x), ?_, fun k hk => ?_⟩
  · rw [setCell_eq_setRow w B j cs _ _ _ hc]; exact setRow_heap w B _ _ _ _ hc
  · obtain ⟨v, hv⟩ := hv k hk
    rw [Array.getElem?_setIfInBounds]
    have hlt : k < cs.size := by
      rcases Nat.lt_or_ge k cs.size with h | h
      · exact h
      · rw [Array.getElem?_eq_none h] at hv; cases hv
    by_cases e : j = k
    · subst e; exact ⟨x, by simp [hlt]⟩
    · exact ⟨v, by simp [e, hv]⟩

set_option maxHeartbeats 1000000 in
theorem back_any (a : Option Addr) (cap : Nat) (zs : List Int) (dr bu en wa : Int) (w : World) (B : Nat) (hz : zs.length ≤ 17592186044416) (hs : SliceAt w a zs) (hB : w.heap[B]? = some (.cells (lentCells zs) 3 (0, 0))) :
    Calls Tryd.prog 31 #[.slice (some ⟨B, 0, none⟩) (zs.length + 1) (zs.length + 1), .agg #[.slice a zs.length cap, .int .i64 dr, .int .i64 bu, .int .i64 en, .int .i64 wa]] w fun e w' =>
      e = .returned (.bool true) ∧ Below B w w' := by
  have hBlt : B < w.heap.size := (Array.getElem?_eq_some_iff.1 hB).1
  have hs1 : ∀ o, SliceAt (w.alloc o) a zs := fun o => hs.below (below_alloc1 w o)
  have hB1 : ∀ o, Hid ((w.alloc o).heap[B]? = some (.cells (lentCells zs) 3 (0, 0))) := fun o => by show _ = _; rw [Below.heap_alloc _ _ _ hBlt]; exact hB
  have hlast : ∀ o, (w.alloc o).cell? ⟨B, zs.length, none⟩ = some (.int .i64 (-77)) := fun o => cell_of_heap (hB1 o).out (lent_last zs)
  clear hB
  go_enter Tryd.func31, Tryd.ntmps31
  go_wp2
  obtain ⟨w1, hw1⟩ : ∃ w1, w1 = w.alloc (.cells #[.slice a zs.length cap, .int .i64 dr, .int .i64 bu, .int .i64 en, .int .i64 wa] 27) := ⟨_, rfl⟩
  have hself : ∀ wr, Below w1.heap.size w1 wr → wr.cell? ⟨w.heap.size, 0, none⟩ = some (.slice a zs.length cap) := fun wr h => cell_later h (by rw [hw1, World.cell?_alloc_new]; rfl)
  have hs2 : SliceAt w1 a zs := by rw [hw1]; exact hs1 _
  have hB2 : Hid (w1.heap[B]? = some (.cells (lentCells zs) 3 (0, 0))) := by rw [hw1]; exact hB1 _
  have hbw : Below w.heap.size w w1 := by rw [hw1]; exact below_alloc1 _ _
  rw [← hw1]
  clear hs1 hB1 hlast
  have HW := hide hw1
  clear hw1
  go_loopw [6, 7] (fun ok i wr => ∃ r : Nat, r ≤ zs.length ∧ i = .int .i64 r ∧ ok = .bool true ∧ Below w1.heap.size w1 wr) (fun _ i _ => zs.length - (intOf i).toNat)
  case atStart => exact ⟨0, Nat.zero_le _, rfl, rfl, Below.refl _ _⟩
  case round =>
    obtain ⟨r, hrn, rfl, rfl, hbr⟩ := hrel
    by_cases hlt : r < zs.length
    · obtain ⟨b, off, rfl, hr⟩ := hs2 (by omega)
      have hc1 := cell_later hbr (hr r hlt)
      have hc2 := cell_later hbr (cell_of_heap hB2.out (lent_get hlt))
      have hc3 := hself _ hbr
      have hrn1 : (r : Int) < (zs.length : Int) := by omega
      have hrn2 : (r : Int) < (zs.length : Int) + 1 := by omega
      generalize zs.getD r 0 = x at *
      go_wp2
      go_quiet (fail)
      go_wp2
      exact ⟨⟨r + 1, by omega, by go_num, rfl, below_drewN hbr _⟩, by simp [intOf]; omega⟩
    · have hrow : IntsRow wr B (zs.length + 1) := by
        refine ⟨lentCells zs, ?_, fun j hj => ?_⟩
        · rw [hbr.block B (by have := hbw.size; omega)]; exact hB2.out
        · by_cases e : j = zs.length
          · exact ⟨_, by rw [e]; exact lent_last zs⟩
          · exact ⟨_, lent_get (by omega)⟩
      have hbB : Below B w wr := (hbw.mono (by omega)).trans (hbr.mono (by have := hbw.size; omega))
      clear hself hs2 hB2 hbr HW hs
      go_wp2
      go_loopw [8] (fun i wq => ∃ q : Nat, q ≤ zs.length + 1 ∧ i = .int .i64 q ∧ IntsRow wq B (zs.length + 1) ∧ Below B w wq) (fun i _ => zs.length + 1 - (intOf i).toNat)
      case atStart => exact ⟨0, Nat.zero_le _, rfl, hrow, hbB⟩
      case round =>
        obtain ⟨q, hqn, rfl, hrq, hbq⟩ := hrel
        by_cases hlt2 : q ≤ zs.length
        · obtain ⟨⟨v, hcq⟩, hfq⟩ := hrq.at (show q < zs.length + 1 by omega)
          have hq1 : (q : Int) ≤ (zs.length : Int) := by omega
          have hq2 : (q : Int) < (zs.length : Int) + 1 := by omega
          go_wp2
          exact ⟨⟨q + 1, by omega, by go_num, hrq.set 0, hbq.setCell (Nat.le_refl _) _⟩, by simp [intOf]; omega⟩
        · go_wp2
          go_ret
          exact ⟨rfl, hbq⟩

end Go.Proofs.YtpdkojgepagbnaaDoor
