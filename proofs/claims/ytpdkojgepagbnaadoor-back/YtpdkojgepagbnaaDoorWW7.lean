/-
  Pack: the document's bytes of a message.
-/
import Derived.Test.YtpdkojgepagbnaaDoorWW6
namespace Go.Proofs.YtpdkojgepagbnaaDoor
set_option maxRecDepth 100000
open Go.RowKit

theorem highInt_any (x : Int) (size : Nat) (w : World) (h0 : 0 ≤ x) (hn : x < 9223372036854775808) (hs : size ≤ 6) :
    Calls Tryd.prog 61 #[.int .i64 x, .int .i64 size] w fun e w' => e = .returned (.string ⟨(highL x.toNat size).toArray⟩) ∧ Below w.heap.size w w' := by
  obtain ⟨n, rfl⟩ := Int.eq_ofNat_of_zero_le h0
  exact high_any n size w (by omega) hs

theorem named (l : List UInt8) (n : Nat) (h : l.length = n) : ∃ s : ByteArray, (⟨l.toArray⟩ : ByteArray) = s ∧ s.size = n := ⟨_, rfl, by rw [← h]; rfl⟩

theorem ret2_str {a b : ByteArray} {n : Int} (h : a = b) : Ending.returned (.tuple #[.string a, .int .i64 n]) = .returned (.tuple #[.string b, .int .i64 n]) := by rw [h]

theorem pack_join (m : Msg) (s5 s2 s3 s4 s6 s7 : ByteArray) (e5 : (⟨[u8 m.kind, u8 m.frm, u8 m.to].toArray⟩ : ByteArray) = s5) (e2 : (⟨(highL m.serial.toNat 4).toArray⟩ : ByteArray) = s2) (e3 : (⟨(highL (m.version + 1).toNat 4).toArray⟩ : ByteArray) = s3)
    (e4 : (⟨(highL m.age.toNat 6).toArray⟩ : ByteArray) = s4) (e6 : (⟨[u8 m.present, UInt8.ofNat m.key.size].toArray⟩ : ByteArray) = s6) (e7 : (⟨[UInt8.ofNat m.value.size].toArray⟩ : ByteArray) = s7) :
    s5 ++ s2 ++ s3 ++ s4 ++ s6 ++ m.key ++ s7 ++ m.value = ⟨(packL m).toArray⟩ := by
  subst e5 e2 e3 e4 e6 e7
  apply ByteArray.ext
  simp [ByteArray.data_append, packL]

set_option maxHeartbeats 1000000 in
theorem refPack_yes (m : Msg) (w : World) (hS : soundB m = true) :
    Calls Tryd.prog 33 #[.agg #[.int .i64 m.kind, .int .i64 m.frm, .int .i64 m.to, .string m.key, .int .i64 m.serial, .int .i64 m.version, .int .i64 m.age, .int .i64 m.present, .string m.value]] w fun e w' => e = .returned (.tuple #[.string ⟨(packL m).toArray⟩, .int .i64 0]) ∧ Below w.heap.size w w' := by
  obtain ⟨h1, h2, h3, h4, h5, h6, h7, h8, h9, h10, h11, h12, h13, h14, h15, h16⟩ := sound_parts hS
  go_enter Tryd.func33, Tryd.ntmps33
  go_wp2_with fail
  refine (sound_any m _ (by unfold maxLen; omega)).mono ?_
  rintro e w1 ⟨rfl, hb1⟩
  rw [sound_ref, hS]
  have M1 : MsgAt w1 w.heap.size m := (msgAt_new w m _).later hb1 (by simp)
  have hb1' := (below_alloc1' w _).trans (hb1.mono (by simp))
  have hz1 : w.heap.size < w1.heap.size := by have := hb1.size; simp at this; omega
  clear hb1
  have HM := hide M1
  obtain ⟨c0, c1, c2, c3, c4, c5, c6, c7, c8⟩ := M1
  go_wp2_with fail
  refine (highInt_any m.serial 4 _ h7 (by omega) (by omega)).mono ?_
  rintro e w2 ⟨rfl, B2⟩
  obtain ⟨s2, e2, n2⟩ := named (highL m.serial.toNat 4) 4 (length_highL _ _)
  rw [e2]
  have E2 := hide e2
  clear e2
  clear c0 c1 c2 c3 c4 c5 c6 c7 c8
  obtain ⟨c0, c1, c2, c3, c4, c5, c6, c7, c8⟩ := (unhide HM).later B2 hz1
  go_wp2_with fail
  refine (highInt_any _ 4 _ (by omega) (by omega) (by omega)).mono ?_
  rintro e w3 ⟨rfl, hb3⟩
  obtain ⟨s3, e3, n3⟩ := named (highL (m.version + 1).toNat 4) 4 (length_highL _ _)
  rw [e3]
  have E3 := hide e3
  clear e3
  have B3 : Below w1.heap.size w1 w3 := B2.trans (hb3.mono B2.size)
  clear c0 c1 c2 c3 c4 c5 c6 c7 c8 hb3
  obtain ⟨c0, c1, c2, c3, c4, c5, c6, c7, c8⟩ := (unhide HM).later B3 hz1
  go_wp2_with fail
  refine (highInt_any m.age 6 _ h11 (by omega) (by omega)).mono ?_
  rintro e w4 ⟨rfl, hb4⟩
  obtain ⟨s4, e4, n4⟩ := named (highL m.age.toNat 6) 6 (length_highL _ _)
  rw [e4]
  have E4 := hide e4
  clear e4
  have B4 : Below w1.heap.size w1 w4 := B3.trans (hb4.mono B3.size)
  clear c0 c1 c2 c3 c4 c5 c6 c7 c8 hb4
  obtain ⟨c0, c1, c2, c3, c4, c5, c6, c7, c8⟩ := (unhide HM).later B4 hz1
  have hz4 : w.heap.size < w4.heap.size := Nat.lt_of_lt_of_le hz1 B4.size
  have cv3 := conv3 w4 w4.heap.size rfl m.kind m.frm m.to (u8 m.kind) (u8 m.frm) (u8 m.to) (u8_is (by omega) (by omega)).symm (u8_is h3 h4).symm (u8_is h5 h6).symm
  have cv2 := fun o => conv2 (w4.alloc o) (w4.heap.size + 1) (by simp) m.present (m.key.size : Int) (u8 m.present) (UInt8.ofNat m.key.size) (u8_is h13 (by omega)).symm (by rw [UInt8.toNat_ofNat']; omega)
  have cv1 := fun o o' => conv1 ((w4.alloc o).alloc o') (w4.heap.size + 1 + 1) (by simp) (m.value.size : Int) (UInt8.ofNat m.value.size) (by rw [UInt8.toNat_ofNat']; omega)
  obtain ⟨s5, e5, n5⟩ := named [u8 m.kind, u8 m.frm, u8 m.to] 3 rfl
  have e5' : (⟨#[u8 m.kind, u8 m.frm, u8 m.to]⟩ : ByteArray) = s5 := e5
  rw [e5'] at cv3
  obtain ⟨s6, e6, n6⟩ := named [u8 m.present, UInt8.ofNat m.key.size] 2 rfl
  have e6' : (⟨#[u8 m.present, UInt8.ofNat m.key.size]⟩ : ByteArray) = s6 := e6
  simp only [e6'] at cv2
  obtain ⟨s7, e7, n7⟩ := named [UInt8.ofNat m.value.size] 1 rfl
  have e7' : (⟨#[UInt8.ofNat m.value.size]⟩ : ByteArray) = s7 := e7
  simp only [e7'] at cv1
  have E5 := hide e5
  have E6 := hide e6
  have E7 := hide e7
  clear e5 e5' e6 e6' e7 e7'
  have c8' : ∀ o1 o2 o3, (((w4.alloc o1).alloc o2).alloc o3).cell? ⟨w.heap.size, 8, none⟩ = some (.string m.value) := fun o1 o2 o3 =>
    cell_later (below_alloc1' _ o3) (cell_later (below_alloc1' _ o2) (cell_later (below_alloc1' w4 o1) c8))
  have hkb : m.key.size ≤ 4 := h15
  have hvb : m.value.size ≤ 16 := h16
  go_wp2
  go_ret2
  refine ⟨?_, hb1'.trans ((((B4.alloc B4.size _).alloc (by have := B4.size; simp; omega) _).alloc (by have := B4.size; simp; omega) _).mono (by omega))⟩
  exact ret2_str (pack_join m s5 s2 s3 s4 s6 s7 (unhide E5) (unhide E2) (unhide E3) (unhide E4) (unhide E6) (unhide E7))

set_option maxHeartbeats 400000 in
theorem refPack_no (m : Msg) (w : World) (hS : soundB m = false) (hkey : m.key.size ≤ maxLen) :
    Calls Tryd.prog 33 #[.agg #[.int .i64 m.kind, .int .i64 m.frm, .int .i64 m.to, .string m.key, .int .i64 m.serial, .int .i64 m.version, .int .i64 m.age, .int .i64 m.present, .string m.value]] w fun e w' => e = .returned (.tuple #[.string ⟨#[]⟩, .int .i64 9]) ∧ Below w.heap.size w w' := by
  go_enter Tryd.func33, Tryd.ntmps33
  go_wp2_with fail
  refine (sound_any m _ hkey).mono ?_
  rintro e w1 ⟨rfl, hb1⟩
  have hb1' := (below_alloc1' w _).trans (hb1.mono (by simp))
  clear hb1
  rw [sound_ref, hS]
  go_wp2
  go_ret2
  exact ⟨rfl, hb1'⟩

theorem refPack_any (m : Msg) (w : World) (hkey : m.key.size ≤ maxLen) :
    Calls Tryd.prog 33 #[.agg #[.int .i64 m.kind, .int .i64 m.frm, .int .i64 m.to, .string m.key, .int .i64 m.serial, .int .i64 m.version, .int .i64 m.age, .int .i64 m.present, .string m.value]] w fun e w' => e = .returned (.tuple #[.string (packS m), .int .i64 (packE m)]) ∧ Below w.heap.size w w' := by
  cases hS : soundB m with
  | true => rw [packS, packE, hS]; exact refPack_yes m w hS
  | false => rw [packS, packE, hS]; exact refPack_no m w hS hkey

end Go.Proofs.YtpdkojgepagbnaaDoor
