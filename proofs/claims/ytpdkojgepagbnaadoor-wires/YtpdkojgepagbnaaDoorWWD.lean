/-
  The statement Wires, as a call: it answers true at every message and at all bytes, and turns nothing that was there.
-/
import Derived.Test.YtpdkojgepagbnaaDoorWWB
import Derived.Test.YtpdkojgepagbnaaDoorWWC
namespace Go.Proofs.YtpdkojgepagbnaaDoor
set_option maxRecDepth 100000
open Go.RowKit

/-- What Unpack answers. -/
def Answers (s : ByteArray) (m : Msg) (e : Int) : Prop := (∃ k, ∃ h : Shape s k, m = gotM (shapeM s k h.le) ∧ e = packE (shapeM s k h.le)) ∨ ((∀ k, ¬ Shape s k) ∧ m = noMsg ∧ e = 9)

theorem answers_ex (s : ByteArray) : ∃ m e, Answers s m e := by
  by_cases h : ∃ k, Shape s k
  · obtain ⟨k, hk⟩ := h
    exact ⟨_, _, .inl ⟨k, hk, rfl, rfl⟩⟩
  · exact ⟨_, _, .inr ⟨fun k hk => h ⟨k, hk⟩, rfl, rfl⟩⟩

theorem wireUnpack_any (s : ByteArray) (m : Msg) (e : Int) (hA : Answers s m e) (w : World) (hm : s.size ≤ maxLen) (hT : KindTab w) (hK : KeyTab w) :
    Calls Tryd.prog 36 #[.string s] w fun r w' => r = .returned (.tuple #[.agg m.cells, .int .i64 e]) ∧ Below w.heap.size w w' := by
  rcases hA with ⟨k, h, rfl, rfl⟩ | ⟨h, rfl, rfl⟩
  · exact wireUnpack_yes s k w hm h hT hK
  · exact wireUnpack_no s w hm h

theorem list_eq {a b : ByteArray} (h : (a.toList == b.toList) = true) : a.data.toList = b.data.toList := by
  rw [Lib.toList_data, Lib.toList_data] at h
  exact eq_of_beq h

theorem refUnpack_any (s : ByteArray) (m : Msg) (e : Int) (hA : Answers s m e) (w : World) (hm : s.size ≤ maxLen) :
    Calls Tryd.prog 34 #[.string s] w fun r w' => r = .returned (.tuple #[.agg m.cells, .int .i64 e]) ∧ Below w.heap.size w w' := by
  rcases hA with ⟨k, h, rfl, rfl⟩ | ⟨h, rfl, rfl⟩
  · have this := refUnpack_all s k w hm h.le h.len h.hk
    have hg : refGot s (shapeM s k h.le) = soundB (shapeM s k h.le) := by
      cases hS : soundB (shapeM s k h.le) with
      | false => rw [refGot, hS]; rfl
      | true =>
        have e1 : (packS (shapeM s k h.le)).toList = s.toList := by
          rw [Lib.toList_data, Lib.toList_data, packS, hS]
          exact pack_yes s k h
        rw [refGot, hS, e1]
        simp
    have e2 : refM s (shapeM s k h.le) = gotM (shapeM s k h.le) := by rw [refM, gotM, hg]
    have e3 : refE s (shapeM s k h.le) = packE (shapeM s k h.le) := by rw [refE, packE, hg]
    rw [← e2, ← e3]
    exact this
  · by_cases h20 : 20 ≤ s.size
    · obtain ⟨k, hk⟩ : ∃ k, (s[18]'(by omega)).toNat = k := ⟨_, rfl⟩
      by_cases hl : 20 + k ≤ s.size
      · have this := refUnpack_all s k w hm (by omega) hl hk
        have hg : refGot s (shapeM s k (by omega)) = false := by
          cases hr : refGot s (shapeM s k (by omega)) with
          | false => rfl
          | true =>
            rw [refGot, Bool.and_eq_true] at hr
            have hp := list_eq hr.2
            rw [packS, hr.1] at hp
            exact absurd (shape_of_pack s k (by omega) hl hk hr.1 hp) (h k)
        have e2 : refM s (shapeM s k (by omega)) = noMsg := by rw [refM, hg]; rfl
        have e3 : refE s (shapeM s k (by omega)) = 9 := by rw [refE, hg]; rfl
        rw [← e2, ← e3]
        exact this
      · exact refUnpack_short s k w hm h20 hk (by omega)
    · exact refUnpack_few s w (by omega)

set_option maxHeartbeats 1000000 in
theorem unpack_any (s : ByteArray) (m : Msg) (e : Int) (hA : Answers s m e) (w : World) (hm : s.size ≤ maxLen) (hT : KindTab w) (hK : KeyTab w) :
    Calls Tryd.prog 12 #[.string s] w fun r w' => r = .returned (.tuple #[.agg m.cells, .int .i64 e]) ∧ Below w.heap.size w w' := by
  have HA := hide hA
  clear hA
  go_enter Tryd.func12, Tryd.ntmps12
  go_wp2_with fail
  refine (wireUnpack_any s m e (unhide HA) _ hm (hT.later (below_alloc1' w _)) (hK.later (below_alloc1' w _))).mono ?_
  rintro e w1 ⟨rfl, hb1⟩
  have hb1' := (below_alloc1' w _).trans (hb1.mono (by simp))
  have hZ : w1.heap[w.heap.size]? = some (.cells noMsg.cells 23 (0, 0)) := by rw [hb1.block _ (by simp)]; exact heap_alloc_new' _
  obtain ⟨z0, z1, z2, z3, z4, z5, z6, z7, z8⟩ := MsgAt.of_heap hZ
  have hf : ∀ i, w1.frozen? ⟨w.heap.size, i, none⟩ = false := fun i => frozen_row hZ
  clear hb1 hT hK hZ HA
  simp only [Msg.cells]
  go_wp2
  exact bodyPost_ret (v := .tuple #[.agg #[.int .i64 m.kind, .int .i64 m.frm, .int .i64 m.to, .string m.key, .int .i64 m.serial, .int .i64 m.version, .int .i64 m.age, .int .i64 m.present, .string m.value], .int .i64 e]) (by simp [results, Tryd.results12, go_sem, z0, z1, z2, z3, z4, z5, z6, z7, z8]) rfl ⟨rfl, (((((((((hb1'.setCell (Nat.le_refl _) _).setCell (Nat.le_refl _) _).setCell (Nat.le_refl _) _).setCell (Nat.le_refl _) _).setCell (Nat.le_refl _) _).setCell (Nat.le_refl _) _).setCell (Nat.le_refl _) _).setCell (Nat.le_refl _) _).setCell (Nat.le_refl _) _)⟩

/-- The cells of a step that packs, or unpacks. -/
def packCells (m : Msg) : Array Value := #[.int .i64 3, .int .i64 0, .int .i64 0, .int .i64 0, .string ⟨#[]⟩, .string ⟨#[]⟩, .slice none 0 0, .int .i64 0, .int .i64 0, .int .i64 0, .int .i64 0,
  .int .i64 m.kind, .int .i64 m.frm, .int .i64 m.to, .string m.key, .int .i64 m.serial, .int .i64 m.version, .int .i64 m.age, .int .i64 m.present, .string m.value]

theorem pack_cells {w wk : World} {m : Msg} {t : TypeId} (h : Below (w.heap.size + 1) (w.alloc (.cells (packCells m) t)) wk) :
    wk.cell? ⟨w.heap.size, 11, none⟩ = some (.int .i64 m.kind) ∧ wk.cell? ⟨w.heap.size, 12, none⟩ = some (.int .i64 m.frm) ∧ wk.cell? ⟨w.heap.size, 13, none⟩ = some (.int .i64 m.to) ∧ wk.cell? ⟨w.heap.size, 14, none⟩ = some (.string m.key) ∧
      wk.cell? ⟨w.heap.size, 15, none⟩ = some (.int .i64 m.serial) ∧ wk.cell? ⟨w.heap.size, 16, none⟩ = some (.int .i64 m.version) ∧ wk.cell? ⟨w.heap.size, 17, none⟩ = some (.int .i64 m.age) ∧ wk.cell? ⟨w.heap.size, 18, none⟩ = some (.int .i64 m.present) ∧ wk.cell? ⟨w.heap.size, 19, none⟩ = some (.string m.value) := by
  refine ⟨?_, ?_, ?_, ?_, ?_, ?_, ?_, ?_, ?_⟩
  all_goals
    rw [h.cell (by simp), World.cell?_alloc_new]
    rfl

set_option maxHeartbeats 1000000 in
theorem plainPack_any (m : Msg) (w : World) (hkey : m.key.size ≤ maxLen) (hT : KindTab w) (hK : KeyTab w) :
    Calls Tryd.prog 10 #[.agg #[.int .i64 3, .int .i64 0, .int .i64 0, .int .i64 0, .string ⟨#[]⟩, .string ⟨#[]⟩, .slice none 0 0, .int .i64 0, .int .i64 0, .int .i64 0, .int .i64 0,
      .int .i64 m.kind, .int .i64 m.frm, .int .i64 m.to, .string m.key, .int .i64 m.serial, .int .i64 m.version, .int .i64 m.age, .int .i64 m.present, .string m.value]] w fun e w' => e = .returned (.bool true) ∧ Below w.heap.size w w' := by
  go_enter Tryd.func10, Tryd.ntmps10
  go_wp2_with fail
  refine (pack_any m _ hkey (hT.later (below_alloc1' w _)) (hK.later (below_alloc1' w _))).mono ?_
  rintro e w1 ⟨rfl, hb1⟩
  have hb01 : Below (w.heap.size + 1) (w.alloc (.cells (packCells m) 29)) w1 := hb1.mono (by simp)
  have hb1' := (below_alloc1' w _).trans (hb1.mono (by simp))
  clear hb1 hT hK
  obtain ⟨c0, c1, c2, c3, c4, c5, c6, c7, c8⟩ := pack_cells hb01
  go_wp2_with fail
  refine (refPack_any m _ hkey).mono ?_
  rintro e w2 ⟨rfl, hb2⟩
  have hb2' := hb1'.trans (hb2.mono hb1'.size)
  clear c0 c1 c2 c3 c4 c5 c6 c7 c8 hb2 hb01 hb1'
  generalize packS m = ps at *
  generalize packE m = pe at *
  go_wp2_with (go_at_call 15; refine (num_any _ _).mono ?_; rintro e w' ⟨rfl, rfl⟩)
  go_ret
  exact ⟨rfl, hb2'⟩

/-- The cells of a step that unpacks. -/
def unpackCells (s : ByteArray) : Array Value := #[.int .i64 4, .int .i64 0, .int .i64 0, .int .i64 0, .string s, .string ⟨#[]⟩, .slice none 0 0, .int .i64 0, .int .i64 0, .int .i64 0, .int .i64 0,
  .int .i64 0, .int .i64 0, .int .i64 0, .string ⟨#[]⟩, .int .i64 0, .int .i64 0, .int .i64 0, .int .i64 0, .string ⟨#[]⟩]

theorem unpack_cell {w wk : World} {s : ByteArray} {t : TypeId} (h : Below (w.heap.size + 1) (w.alloc (.cells (unpackCells s) t)) wk) : wk.cell? ⟨w.heap.size, 4, none⟩ = some (.string s) := by
  rw [h.cell (by simp), World.cell?_alloc_new]
  rfl

set_option maxHeartbeats 1000000 in
theorem plainUnpack_any (s : ByteArray) (w : World) (hm : s.size ≤ maxLen) (hT : KindTab w) (hK : KeyTab w) :
    Calls Tryd.prog 10 #[.agg #[.int .i64 4, .int .i64 0, .int .i64 0, .int .i64 0, .string s, .string ⟨#[]⟩, .slice none 0 0, .int .i64 0, .int .i64 0, .int .i64 0, .int .i64 0,
      .int .i64 0, .int .i64 0, .int .i64 0, .string ⟨#[]⟩, .int .i64 0, .int .i64 0, .int .i64 0, .int .i64 0, .string ⟨#[]⟩]] w fun e w' => e = .returned (.bool true) ∧ Below w.heap.size w w' := by
  obtain ⟨m, er, hA⟩ := answers_ex s
  have HA := hide hA
  clear hA
  go_enter Tryd.func10, Tryd.ntmps10
  go_wp2_with fail
  refine (unpack_any s m er (unhide HA) _ hm (hT.later (below_alloc1' w _)) (hK.later (below_alloc1' w _))).mono ?_
  rintro e w1 ⟨rfl, hb1⟩
  have hb01 : Below (w.heap.size + 1) (w.alloc (.cells (unpackCells s) 29)) w1 := hb1.mono (by simp)
  have hb1' := (below_alloc1' w _).trans (hb1.mono (by simp))
  have hz1 : w.heap.size < w1.heap.size := by have := hb1.size; simp at this; omega
  clear hb1 hT hK
  have c4 := unpack_cell hb01
  simp only [Msg.cells]
  go_wp2_with fail
  refine (refUnpack_any s m er (unhide HA) _ hm).mono ?_
  rintro e w2 ⟨rfl, hb2⟩
  rw [World.size_alloc] at hb2
  obtain ⟨x0, x1, x2, x3, x4, x5, x6, x7, x8⟩ := (msgAt_new w1 m 23).later hb2 (by simp)
  have hb2' : Below w.heap.size w w2 := hb1'.trans (((below_alloc1' w1 _).mono hb1'.size).trans (hb2.mono (by omega)))
  have hz2 : w1.heap.size < w2.heap.size := by have := hb2.size; simp at this; omega
  clear hb2 hb01 hb1' c4
  simp only [Msg.cells]
  go_wp2_with (go_at_call 15; refine (num_any _ _).mono ?_; rintro e w' ⟨rfl, rfl⟩)
  go_ret
  exact ⟨rfl, hb2'.alloc hb2'.size _⟩

set_option maxHeartbeats 1000000 in
theorem wires_any (m : Msg) (s : ByteArray) (w : World) (hkey : m.key.size ≤ maxLen) (hm : s.size ≤ maxLen) (hT : KindTab w) (hK : KeyTab w) :
    Calls Tryd.prog 3 #[.agg #[.int .i64 m.kind, .int .i64 m.frm, .int .i64 m.to, .string m.key, .int .i64 m.serial, .int .i64 m.version, .int .i64 m.age, .int .i64 m.present, .string m.value], .string s] w fun e w' => e = .returned (.bool true) ∧ Below w.heap.size w w' := by
  go_enter Tryd.func3, Tryd.ntmps3
  go_wp2_with fail
  refine (plainPack_any m _ hkey (hT.later (below_alloc1' w _)) (hK.later (below_alloc1' w _))).mono ?_
  rintro e w1 ⟨rfl, hb1⟩
  have hb1' := (below_alloc1' w _).trans (hb1.mono (by simp))
  have hT1 := hT.later hb1'
  have hK1 := hK.later hb1'
  clear hb1 hT hK
  go_wp2_with fail
  refine (plainUnpack_any s _ hm hT1 hK1).mono ?_
  rintro e w2 ⟨rfl, hb2⟩
  have hb2' := hb1'.trans (hb2.mono hb1'.size)
  clear hT1 hK1
  go_wp2
  go_ret
  exact ⟨rfl, hb2'⟩

end Go.Proofs.YtpdkojgepagbnaaDoor
