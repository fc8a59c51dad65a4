/-
  The bytes of a message and the message of some bytes: why the two readings agree, and that packing and unpacking undo one another.
-/
import Derived.Test.YtpdkojgepagbnaaDoorWWA
namespace Go.Proofs.YtpdkojgepagbnaaDoor
open Go.RowKit

theorem drop_cons {L : List UInt8} {i : Nat} (h : i < L.length) : L.drop i = L[i] :: L.drop (i + 1) := List.drop_eq_getElem_cons h
theorem drop_part (L : List UInt8) (a b : Nat) : L.drop a = (L.drop a).take b ++ L.drop (a + b) := by
  conv => lhs; rw [← List.take_append_drop b (L.drop a)]
  rw [List.drop_drop]

/-- Some bytes, place by place. -/
theorem places (L : List UInt8) (k : Nat) (h : 20 + k ≤ L.length) :
    L = L[0] :: L[1] :: L[2] :: ((L.drop 3).take 4 ++ ((L.drop 7).take 4 ++ ((L.drop 11).take 6 ++ (L[17] :: L[18] :: ((L.drop 19).take k ++ (L[19 + k] :: L.drop (20 + k))))))) := by
  have d20 : L.drop (19 + k) = L[19 + k] :: L.drop (20 + k) := by rw [drop_cons (show 19 + k < L.length by omega), show 19 + k + 1 = 20 + k by omega]
  have d19 : L.drop 19 = (L.drop 19).take k ++ L.drop (19 + k) := drop_part L 19 k
  have d18 : L.drop 18 = L[18] :: L.drop 19 := drop_cons (by omega)
  have d17 : L.drop 17 = L[17] :: L.drop 18 := drop_cons (by omega)
  have d11 : L.drop 11 = (L.drop 11).take 6 ++ L.drop 17 := drop_part L 11 6
  have d7 : L.drop 7 = (L.drop 7).take 4 ++ L.drop 11 := drop_part L 7 4
  have d3 : L.drop 3 = (L.drop 3).take 4 ++ L.drop 7 := drop_part L 3 4
  have d2 : L.drop 2 = L[2] :: L.drop 3 := drop_cons (by omega)
  have d1 : L.drop 1 = L[1] :: L.drop 2 := drop_cons (by omega)
  have d0 : L.drop 0 = L[0] :: L.drop 1 := drop_cons (by omega)
  rw [← d20, ← d19, ← d18, ← d17, ← d11, ← d7, ← d3, ← d2, ← d1, ← d0]
  rfl

theorem u8_byte (c : UInt8) : u8 (c.toNat : Int) = c := by simp [u8]

theorem high_part (s : ByteArray) (a b : Nat) (h : b ≤ s.size) (hab : a ≤ b) : highL (numL (s.extract a b).data.toList) (b - a) = (s.data.toList.drop a).take (b - a) := by
  have hl : (s.extract a b).data.toList.length = b - a := by rw [← Lib.size_eq, ByteArray.size_extract]; omega
  conv => lhs; rw [← hl, high_numL]
  exact Lib.extract_data s a b

/-- The bytes of the message that some bytes tell. -/
theorem pack_shape (s : ByteArray) (k : Nat) (h18 : 18 ≤ s.size) (h : 20 + k ≤ s.size) (hk : (s[18]'(by omega)).toNat = k) :
    packL (shapeM s k h18) = s[0] :: s[1] :: s[2] :: ((s.data.toList.drop 3).take 4 ++ ((s.data.toList.drop 7).take 4 ++ ((s.data.toList.drop 11).take 6 ++ (s[17] :: s[18] :: ((s.data.toList.drop 19).take k ++ (UInt8.ofNat (s.size - (20 + k)) :: s.data.toList.drop (20 + k))))))) := by
  have e1 := high_part s 3 7 (by omega) (by omega)
  have e2 := high_part s 7 11 (by omega) (by omega)
  have e3 := high_part s 11 17 (by omega) (by omega)
  have e4 : (s.extract 19 (19 + k)).data.toList = (s.data.toList.drop 19).take k := by rw [Lib.extract_data]; congr 1; omega
  have e5 : (s.extract (20 + k) s.size).data.toList = s.data.toList.drop (20 + k) := by
    rw [Lib.extract_data]
    apply List.take_of_length_le
    rw [List.length_drop, ← Lib.size_eq]; omega
  have e6 : (s.extract 19 (19 + k)).size = k := by rw [ByteArray.size_extract]; omega
  have e7 : (s.extract (20 + k) s.size).size = s.size - (20 + k) := by rw [ByteArray.size_extract]; omega
  have hk256 : k < 256 := by have := s[18].toNat_lt; omega
  have e8 : UInt8.ofNat k = s[18] := UInt8.toNat_inj.1 (by rw [UInt8.toNat_ofNat', hk]; omega)
  have e9 : ((numL (s.extract 7 11).data.toList : Int) - 1 + 1).toNat = numL (s.extract 7 11).data.toList := by omega
  simp only [packL, shapeM, msgOf, u8_byte, Int.toNat_natCast, e9, e4, e5, e6, e7, e8]
  rw [show (4 : Nat) = 7 - 3 from rfl, e1, show (7 - 3 : Nat) = 11 - 7 from rfl, e2, show (6 : Nat) = 17 - 11 from rfl, e3]
  simp

theorem size_list (s : ByteArray) : s.data.toList.length = s.size := (Lib.size_eq s).symm

theorem places_s (s : ByteArray) (k : Nat) (h : 20 + k ≤ s.size) :
    s.data.toList = s[0] :: s[1] :: s[2] :: ((s.data.toList.drop 3).take 4 ++ ((s.data.toList.drop 7).take 4 ++ ((s.data.toList.drop 11).take 6 ++ (s[17] :: s[18] :: ((s.data.toList.drop 19).take k ++ (s[19 + k] :: s.data.toList.drop (20 + k))))))) :=
  places s.data.toList k (by rw [size_list]; exact h)

/-- Bytes of the right form are the bytes of their message. -/
theorem pack_yes (s : ByteArray) (k : Nat) (h : Shape s k) : packL (shapeM s k h.le) = s.data.toList := by
  rw [pack_shape s k h.le h.len h.hk]
  conv => rhs; rw [places_s s k h.len]
  have hl := h.len
  have hb := (s[19 + k]'(by omega)).toNat_lt
  have e : UInt8.ofNat (s.size - (20 + k)) = s[19 + k] := UInt8.toNat_inj.1 (by rw [UInt8.toNat_ofNat', h.hv]; have := h.hv; omega)
  rw [e]

theorem tail_inj {α : Type} {X Y Z T R : List α} {a b c p q v v' : α} (h : a :: b :: c :: (X ++ (Y ++ (Z ++ (p :: q :: (T ++ (v :: R)))))) = a :: b :: c :: (X ++ (Y ++ (Z ++ (p :: q :: (T ++ (v' :: R))))))) : v = v' := by
  simp only [List.cons.injEq, true_and] at h
  have h1 := List.append_cancel_left h
  have h2 := List.append_cancel_left h1
  have h3 := List.append_cancel_left h2
  simp only [List.cons.injEq, true_and] at h3
  have h4 := List.append_cancel_left h3
  simp only [List.cons.injEq] at h4
  exact h4.1

/-- Bytes that are those of their message, which is right, have the right form. -/
theorem shape_of_pack (s : ByteArray) (k : Nat) (h18 : 18 ≤ s.size) (h : 20 + k ≤ s.size) (hk : (s[18]'(by omega)).toNat = k) (hS : soundB (shapeM s k h18) = true) (hp : packL (shapeM s k h18) = s.data.toList) : Shape s k := by
  refine ⟨h, hk, ?_⟩
  rw [pack_shape s k h18 h hk] at hp
  have hp' := hp.trans (places_s s k h)
  have e := tail_inj hp'
  have hv : (s.extract (20 + k) s.size).size ≤ 16 := (sound_parts hS).2.2.2.2.2.2.2.2.2.2.2.2.2.2.2
  rw [ByteArray.size_extract] at hv
  rw [← e, UInt8.toNat_ofNat']
  omega

end Go.Proofs.YtpdkojgepagbnaaDoor
