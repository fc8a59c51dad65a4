/-
  Pack: the program's bytes of a message that is right.
-/
import Derived.Test.YtpdkojgepagbnaaDoorWW3
import Derived.Test.YtpdkojgepagbnaaDoorWW5
namespace Go.Proofs.YtpdkojgepagbnaaDoor
set_option maxRecDepth 100000
open Go.RowKit

def u8 (x : Int) : UInt8 := UInt8.ofNat x.toNat
theorem u8_is {x : Int} (h0 : 0 ≤ x) (h1 : x ≤ 255) : (((u8 x).toNat : Nat) : Int) = x := by rw [u8, UInt8.toNat_ofNat']; omega

/-- A message in bytes. -/
def packL (m : Msg) : List UInt8 :=
  [u8 m.kind, u8 m.frm, u8 m.to] ++ highL m.serial.toNat 4 ++ highL (m.version + 1).toNat 4 ++ highL m.age.toNat 6 ++ [u8 m.present] ++ UInt8.ofNat m.key.size :: m.key.data.toList ++ UInt8.ofNat m.value.size :: m.value.data.toList

/-- What a message that is right has. -/
theorem sound_parts {m : Msg} (h : soundB m = true) : 1 ≤ m.kind ∧ m.kind ≤ 4 ∧ 0 ≤ m.frm ∧ m.frm ≤ 255 ∧ 0 ≤ m.to ∧ m.to ≤ 255 ∧ 0 ≤ m.serial ∧ m.serial ≤ 4294967295 ∧ -1 ≤ m.version ∧ m.version ≤ 2147483647 ∧ 0 ≤ m.age ∧ m.age ≤ 281474976710655 ∧
    0 ≤ m.present ∧ m.present ≤ 1 ∧ m.key.size ≤ 4 ∧ m.value.size ≤ 16 := by
  rw [← sound_ref] at h
  simp only [refB, Bool.and_eq_true, Nums.inB_iff, keyB] at h
  obtain ⟨⟨⟨⟨⟨⟨⟨⟨⟨⟨a, b⟩, c⟩, d⟩, e⟩, f⟩, g⟩, k⟩, v⟩, _⟩, _⟩ := h
  have hv : (m.value.size : Int) ≤ 16 := by
    rw [val_eq, valB] at v
    exact of_decide_eq_true v
  omega

theorem appendInt_any (x : Int) (width : Nat) (base : Nat) (v : Value) (l : List UInt8) (w : World) (h0 : 0 ≤ x) (hn : x < 9223372036854775808) (hw : width ≤ 6) (hl : l.length ≤ 1000) (hown : Own w base v l) :
    Calls Tryd.prog 64 #[v, .int .i64 x, .int .i64 width] w fun e w' => ∃ v', e = .returned v' ∧ Own w' base v' (l ++ highL x.toNat width) ∧ Below base w w' := by
  obtain ⟨n, rfl⟩ := Int.eq_ofNat_of_zero_le h0
  exact appendNumber_any n width base v l w (by omega) hw hl hown

/-- A message in memory. -/
structure MsgAt (w : World) (b : Nat) (m : Msg) : Prop where
  c0 : w.cell? ⟨b, 0, none⟩ = some (.int .i64 m.kind)
  c1 : w.cell? ⟨b, 1, none⟩ = some (.int .i64 m.frm)
  c2 : w.cell? ⟨b, 2, none⟩ = some (.int .i64 m.to)
  c3 : w.cell? ⟨b, 3, none⟩ = some (.string m.key)
  c4 : w.cell? ⟨b, 4, none⟩ = some (.int .i64 m.serial)
  c5 : w.cell? ⟨b, 5, none⟩ = some (.int .i64 m.version)
  c6 : w.cell? ⟨b, 6, none⟩ = some (.int .i64 m.age)
  c7 : w.cell? ⟨b, 7, none⟩ = some (.int .i64 m.present)
  c8 : w.cell? ⟨b, 8, none⟩ = some (.string m.value)

theorem MsgAt.of_heap {w : World} {b : Nat} {m : Msg} {t : TypeId} {f : Nat × Nat} (h : w.heap[b]? = some (.cells m.cells t f)) : MsgAt w b m := by
  constructor
  all_goals (simp only [World.cell?, h]; rfl)

theorem MsgAt.later {w w' : World} {b B : Nat} {m : Msg} (h : MsgAt w b m) (hb : Below B w w') (hB : b < B) : MsgAt w' b m := by
  constructor
  all_goals (rw [hb.cell (by simpa using hB)])
  · exact h.c0
  · exact h.c1
  · exact h.c2
  · exact h.c3
  · exact h.c4
  · exact h.c5
  · exact h.c6
  · exact h.c7
  · exact h.c8

theorem msgAt_new (w : World) (m : Msg) (t : TypeId) : MsgAt (w.alloc (.cells m.cells t)) w.heap.size m := by
  constructor
  all_goals (rw [World.cell?_alloc_new]; rfl)

theorem own_lit (w : World) (l : List UInt8) (hl : l.length ≤ 1000) : Own (w.alloc (.cells (bytesV l).toArray 5)) w.heap.size (.slice (some ⟨w.heap.size, 0, none⟩) l.length l.length) l := by
  refine ⟨?_, by simp⟩
  have := World.ownsRow_lit (e := 5) (size := 1) (base := w.heap.size) w (bytesV l).toArray l.length (Nat.le_refl _) (by unfold maxLen; omega) (by simp [bytesV])
  simpa using this

theorem own_conv {w : World} {base : Nat} {v : Value} {l : List UInt8} (h : Own w base v l) (hl : 0 < l.length) :
    ∃ cap g, v = .slice (some ⟨g, 0, none⟩) l.length cap ∧ Sem.run Tryd.prog (convert 124 9 (.slice (some ⟨g, 0, none⟩) l.length cap)) w = .ok (.string ⟨l.toArray⟩) w := by
  obtain ⟨⟨hxl, hv | ⟨g, cap, cur, hv, _, hcur, hn, _, hsz, htake⟩⟩, _⟩ := h
  · omega
  · refine ⟨cap, g, hv, ?_⟩
    refine run_convert_bytes_back _ 124 9 5 ⟨g, 0, none⟩ cap l Tryd.underlying124 Tryd.underlying5 Tryd.underlying9 (fun j hj => ?_)
    rw [Go.WideShapes.add_plain, Nat.zero_add]
    have e : cur[j]? = some (.int .u8 (l[j].toNat : Int)) := by
      have h1 : (bytesV l)[j]? = some (.int .u8 (l[j].toNat : Int)) := by simp [bytesV, hj]
      rw [← htake, List.getElem?_take_of_lt (by omega)] at h1
      simpa using h1
    simp [World.cell?, hcur, e]

set_option maxHeartbeats 1000000 in
theorem wirePack_yes (m : Msg) (w : World) (hS : soundB m = true) (hT : KindTab w) (hK : KeyTab w) :
    Calls Tryd.prog 35 #[.agg #[.int .i64 m.kind, .int .i64 m.frm, .int .i64 m.to, .string m.key, .int .i64 m.serial, .int .i64 m.version, .int .i64 m.age, .int .i64 m.present, .string m.value]] w fun e w' => e = .returned (.tuple #[.string ⟨(packL m).toArray⟩, .int .i64 0]) ∧ Below w.heap.size w w' := by
  obtain ⟨h1, h2, h3, h4, h5, h6, h7, h8, h9, h10, h11, h12, h13, h14, h15, h16⟩ := sound_parts hS
  go_enter Tryd.func35, Tryd.ntmps35
  go_wp2_with fail
  refine (wireRight_any m _ (by unfold maxLen; omega) (hT.later (below_alloc1' w _)) (hK.later (below_alloc1' w _))).mono ?_
  rintro e w1 ⟨rfl, hb1⟩
  rw [hS]
  have M1 : MsgAt w1 w.heap.size m := (msgAt_new w m _).later hb1 (by simp)
  have hb1' := (below_alloc1' w _).trans (hb1.mono (by simp))
  have hz1 : w.heap.size < w1.heap.size := by have := hb1.size; simp at this; omega
  clear hb1 hT hK
  have HM := hide M1
  obtain ⟨c0, c1, c2, c3, c4, c5, c6, c7, c8⟩ := M1
  have O1 := own_lit w1 [u8 m.kind, u8 m.frm, u8 m.to] (by simp)
  simp only [bytesV, List.map_cons, List.map_nil, u8_is (show 0 ≤ m.kind by omega) (by omega), u8_is h3 h4, u8_is h5 h6] at O1
  go_wp2_with fail
  refine (appendInt_any m.serial 4 _ _ _ _ h7 (by omega) (by omega) (by simp) O1).mono ?_
  rintro e w2 ⟨v2, rfl, O2, hb2⟩
  clear O1
  have B2 : Below w1.heap.size w1 w2 := (below_alloc1' w1 _).trans hb2
  clear hb2 c0 c1 c2 c3 c4 c5 c6 c7 c8
  obtain ⟨c0, c1, c2, c3, c4, c5, c6, c7, c8⟩ := (unhide HM).later B2 hz1
  have H2 := hide O2
  clear O2
  go_wp2_with fail
  refine (appendInt_any _ 4 _ _ _ _ (by omega) (by omega) (by omega) (by simp [length_highL]) (unhide H2)).mono ?_
  rintro e w3 ⟨v3, rfl, O3, hb3⟩
  have B3 : Below w1.heap.size w1 w3 := B2.trans hb3
  clear hb3 c0 c1 c2 c3 c4 c5 c6 c7 c8
  obtain ⟨c0, c1, c2, c3, c4, c5, c6, c7, c8⟩ := (unhide HM).later B3 hz1
  have H3 := hide O3
  clear O3
  go_wp2_with fail
  refine (appendInt_any m.age 6 _ _ _ _ h11 (by omega) (by omega) (by simp [length_highL]) (unhide H3)).mono ?_
  rintro e w4 ⟨v4, rfl, O4, hb4⟩
  have B4 : Below w1.heap.size w1 w4 := B3.trans hb4
  clear hb4 c0 c1 c2 c3 c4 c5 c6 c7 c8
  obtain ⟨c0, c1, c2, c3, c4, c5, c6, c7, c8⟩ := (unhide HM).later B4 hz1
  have H4 := hide O4
  clear O4
  obtain ⟨i0, hi, hz0, hzz1, hz2⟩ := info_parts info5
  have hp := u8_is h13 (show m.present ≤ 255 by omega)
  generalize hacc : [u8 m.kind, u8 m.frm, u8 m.to] ++ highL m.serial.toNat 4 ++ highL (m.version + 1).toNat 4 ++ highL m.age.toNat 6 = acc at *
  have hal : acc.length = 17 := by rw [← hacc]; simp [length_highL]
  have HA := hide hacc
  clear hacc
  go_wp2_with (at_builtin; refine wpList_append_own _ rfl (.tmp 31) (.tmp 35) 124 rfl w1.heap.size 5 i0 (.int .u8 0) 1 1 Tryd.underlying124 hi hz0 hzz1 hz2 rfl (by decide) _ _ _ rfl ((unhide H4).alloc _).1 ⟨w4.heap.size, 0, none⟩ 1 1 [.int .u8 m.present] rfl rfl ?c1 ?c2 ?c3 ?c4 ?c5 ?_)
  case c1 => exact cell_one_new _ _ _
  case c2 => intro u hu; simp at hu; subst hu; rfl
  case c3 => unfold maxLen; omega
  case c4 => omega
  case c5 => have := (unhide H4).2; simp; omega
  intro v5 w5 hown5 hgrow5 _
  have O5 : Own w5 w1.heap.size v5 (acc ++ [u8 m.present]) := by
    refine ⟨?_, ?_⟩
    · rw [List.length_append, bytesV_append]
      have e : bytesV [u8 m.present] = [.int .u8 m.present] := by simp [bytesV, hp]
      rw [e, show acc.length + [u8 m.present].length = 18 by simp [hal]]
      exact hown5
    · have := (unhide H4).2; have := hgrow5.size; simp at this; omega
  have B5 : Below w1.heap.size w1 w5 := (B4.alloc (unhide H4).2 _).grown hgrow5 (by have := (unhide H4).2; simp; omega) (unhide H4).block
  clear hown5 hgrow5 c0 c1 c2 c3 c4 c5 c6 c7 c8 hp
  obtain ⟨c0, c1, c2, c3, c4, c5, c6, c7, c8⟩ := (unhide HM).later B5 hz1
  have H5 := hide O5
  clear O5
  go_wp2_with fail
  refine (appendCounted_any m.key _ _ _ _ (by omega) (by simp; omega) (unhide H5)).mono ?_
  rintro e w6 ⟨v6, rfl, O6, hb6⟩
  have B6 : Below w1.heap.size w1 w6 := B5.trans hb6
  clear hb6 c0 c1 c2 c3 c4 c5 c6 c7 c8
  obtain ⟨c0, c1, c2, c3, c4, c5, c6, c7, c8⟩ := (unhide HM).later B6 hz1
  have H6 := hide O6
  clear O6
  go_wp2_with fail
  refine (appendCounted_any m.value _ _ _ _ (by omega) (by simp; omega) (unhide H6)).mono ?_
  rintro e w7 ⟨v7, rfl, O7, hb7⟩
  have B7 : Below w1.heap.size w1 w7 := B6.trans hb7
  clear hb7 c0 c1 c2 c3 c4 c5 c6 c7 c8 H6 H5 H4 H3 H2
  have hP : acc ++ [u8 m.present] ++ UInt8.ofNat m.key.size :: m.key.data.toList ++ UInt8.ofNat m.value.size :: m.value.data.toList = packL m := by rw [← unhide HA]; rfl
  rw [hP] at O7
  have hlen : 0 < (packL m).length := by rw [← hP]; simp; omega
  clear hP HA
  obtain ⟨cap, g, rfl, hcv⟩ := own_conv O7 hlen
  clear O7
  go_wp2
  go_ret2
  exact ⟨rfl, hb1'.trans (B7.mono (by omega))⟩

def packS (m : Msg) : ByteArray := if soundB m then ⟨(packL m).toArray⟩ else ⟨#[]⟩
def packE (m : Msg) : Int := if soundB m then 0 else 9

set_option maxHeartbeats 400000 in
theorem wirePack_no (m : Msg) (w : World) (hS : soundB m = false) (hkey : m.key.size ≤ maxLen) (hT : KindTab w) (hK : KeyTab w) :
    Calls Tryd.prog 35 #[.agg #[.int .i64 m.kind, .int .i64 m.frm, .int .i64 m.to, .string m.key, .int .i64 m.serial, .int .i64 m.version, .int .i64 m.age, .int .i64 m.present, .string m.value]] w fun e w' => e = .returned (.tuple #[.string ⟨#[]⟩, .int .i64 9]) ∧ Below w.heap.size w w' := by
  go_enter Tryd.func35, Tryd.ntmps35
  go_wp2_with fail
  refine (wireRight_any m _ hkey (hT.later (below_alloc1' w _)) (hK.later (below_alloc1' w _))).mono ?_
  rintro e w1 ⟨rfl, hb1⟩
  have hb1' := (below_alloc1' w _).trans (hb1.mono (by simp))
  clear hb1 hT hK
  rw [hS]
  go_wp2
  go_ret2
  exact ⟨rfl, hb1'⟩

theorem wirePack_any (m : Msg) (w : World) (hkey : m.key.size ≤ maxLen) (hT : KindTab w) (hK : KeyTab w) :
    Calls Tryd.prog 35 #[.agg #[.int .i64 m.kind, .int .i64 m.frm, .int .i64 m.to, .string m.key, .int .i64 m.serial, .int .i64 m.version, .int .i64 m.age, .int .i64 m.present, .string m.value]] w fun e w' => e = .returned (.tuple #[.string (packS m), .int .i64 (packE m)]) ∧ Below w.heap.size w w' := by
  cases hS : soundB m with
  | true => rw [packS, packE, hS]; exact wirePack_yes m w hS hT hK
  | false => rw [packS, packE, hS]; exact wirePack_no m w hS hkey hT hK

set_option maxHeartbeats 400000 in
theorem pack_any (m : Msg) (w : World) (hkey : m.key.size ≤ maxLen) (hT : KindTab w) (hK : KeyTab w) :
    Calls Tryd.prog 11 #[.agg #[.int .i64 m.kind, .int .i64 m.frm, .int .i64 m.to, .string m.key, .int .i64 m.serial, .int .i64 m.version, .int .i64 m.age, .int .i64 m.present, .string m.value]] w fun e w' => e = .returned (.tuple #[.string (packS m), .int .i64 (packE m)]) ∧ Below w.heap.size w w' := by
  go_enter Tryd.func11, Tryd.ntmps11
  go_wp2_with fail
  refine (wirePack_any m _ hkey (hT.later (below_alloc1' w _)) (hK.later (below_alloc1' w _))).mono ?_
  rintro e w1 ⟨rfl, hb1⟩
  have hb1' := (below_alloc1' w _).trans (hb1.mono (by simp))
  clear hb1 hT hK
  go_wp2
  go_ret2
  exact ⟨rfl, hb1'⟩

end Go.Proofs.YtpdkojgepagbnaaDoor
