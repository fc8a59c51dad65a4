/-
  Packing and unpacking undo one another: the plain mathematics, and what pick answers.
-/
import Derived.Test.YtpdkojgepagbnaaDoorWWD
namespace Go.Proofs.YtpdkojgepagbnaaDoor
open Go.RowKit

theorem length_packL (m : Msg) : (packL m).length = 20 + m.key.size + m.value.size := by
  have e1 : m.key.data.toList.length = m.key.size := size_list _
  have e2 : m.value.data.toList.length = m.value.size := size_list _
  simp only [packL, List.length_append, List.length_cons, List.length_nil, length_highL, e1, e2]
  omega

/-- The bytes of a message, place by place. -/
theorem packL_places (m : Msg) : packL m = u8 m.kind :: u8 m.frm :: u8 m.to :: (highL m.serial.toNat 4 ++ (highL (m.version + 1).toNat 4 ++ (highL m.age.toNat 6 ++ (u8 m.present :: UInt8.ofNat m.key.size :: (m.key.data.toList ++ (UInt8.ofNat m.value.size :: m.value.data.toList)))))) := by
  simp [packL]

theorem get_mid {α : Type} (X : List α) (y : α) (Z : List α) (n : Nat) (h : X.length = n) : (X ++ y :: Z)[n]? = some y := by
  subst h; simp

theorem pack_get18 (m : Msg) : (packL m)[18]? = some (UInt8.ofNat m.key.size) := by
  have e : packL m = (u8 m.kind :: u8 m.frm :: u8 m.to :: (highL m.serial.toNat 4 ++ (highL (m.version + 1).toNat 4 ++ (highL m.age.toNat 6 ++ [u8 m.present])))) ++ UInt8.ofNat m.key.size :: (m.key.data.toList ++ (UInt8.ofNat m.value.size :: m.value.data.toList)) := by
    rw [packL_places]; simp
  rw [e]
  exact get_mid _ _ _ 18 (by simp [length_highL])

theorem pack_getv (m : Msg) : (packL m)[19 + m.key.size]? = some (UInt8.ofNat m.value.size) := by
  have e1 : m.key.data.toList.length = m.key.size := size_list _
  have e : packL m = (u8 m.kind :: u8 m.frm :: u8 m.to :: (highL m.serial.toNat 4 ++ (highL (m.version + 1).toNat 4 ++ (highL m.age.toNat 6 ++ (u8 m.present :: UInt8.ofNat m.key.size :: m.key.data.toList))))) ++ UInt8.ofNat m.value.size :: m.value.data.toList := by
    rw [packL_places]; simp
  rw [e]
  refine get_mid _ _ _ _ ?_
  simp only [List.length_append, List.length_cons, length_highL, e1]
  omega

theorem byte_of_list {s : ByteArray} {i : Nat} {c : UInt8} (h : i < s.size) (hl : s.data.toList[i]? = some c) : s[i] = c := by
  have h' : i < s.data.toList.length := by rw [size_list]; exact h
  rw [List.getElem?_eq_getElem h'] at hl
  exact Option.some.inj hl

/-- Of bytes cut short no message is told. -/
theorem no_prefix (m : Msg) (hS : soundB m = true) (p : ByteArray) (c : Nat) (hc : c < (packL m).length) (hp : p.data.toList = (packL m).take c) : ∀ k, ¬ Shape p k := by
  intro k h
  have hsz : p.size = c := by rw [← size_list, hp, List.length_take]; omega
  have hl := h.len
  obtain ⟨_, _, _, _, _, _, _, _, _, _, _, _, _, _, hk4, hv16⟩ := sound_parts hS
  have g18 : p[18] = UInt8.ofNat m.key.size := byte_of_list (by omega) (by rw [hp, List.getElem?_take_of_lt (by omega)]; exact pack_get18 m)
  have hk := h.hk
  have hkk : k = m.key.size := by
    have e : (p[18]'(by omega)).toNat = m.key.size := by rw [g18, UInt8.toNat_ofNat']; omega
    exact hk.symm.trans e
  subst hkk
  have gv : p[19 + m.key.size] = UInt8.ofNat m.value.size := byte_of_list (by omega) (by rw [hp, List.getElem?_take_of_lt (by omega)]; exact pack_getv m)
  have hv := h.hv
  have e : (p[19 + m.key.size]'(by omega)).toNat = m.value.size := by rw [gv, UInt8.toNat_ofNat']; omega
  rw [e, hsz] at hv
  rw [length_packL] at hc
  omega

theorem parts_of {L A B C T R : List UInt8} {c0 c1 c2 p q v : UInt8} {k : Nat} (hL : L = c0 :: c1 :: c2 :: (A ++ (B ++ (C ++ (p :: q :: (T ++ (v :: R))))))) (hA : A.length = 4) (hB : B.length = 4) (hC : C.length = 6) (hT : T.length = k) :
    L[0]? = some c0 ∧ L[1]? = some c1 ∧ L[2]? = some c2 ∧ L[17]? = some p ∧ (L.drop 3).take 4 = A ∧ (L.drop 7).take 4 = B ∧ (L.drop 11).take 6 = C ∧ (L.drop 19).take k = T ∧ L.drop (20 + k) = R := by
  have d3 : L.drop 3 = A ++ (B ++ (C ++ (p :: q :: (T ++ (v :: R))))) := by rw [hL]; rfl
  have d7 : L.drop 7 = B ++ (C ++ (p :: q :: (T ++ (v :: R)))) := by
    rw [show 7 = 3 + 4 from rfl, ← List.drop_drop, d3, List.drop_left' hA]
  have d11 : L.drop 11 = C ++ (p :: q :: (T ++ (v :: R))) := by
    rw [show 11 = 7 + 4 from rfl, ← List.drop_drop, d7, List.drop_left' hB]
  have d17 : L.drop 17 = p :: q :: (T ++ (v :: R)) := by
    rw [show 17 = 11 + 6 from rfl, ← List.drop_drop, d11, List.drop_left' hC]
  have d19 : L.drop 19 = T ++ (v :: R) := by
    rw [show 19 = 17 + 2 from rfl, ← List.drop_drop, d17]; rfl
  have d20 : L.drop (20 + k) = R := by
    rw [show 20 + k = 19 + (k + 1) by omega, ← List.drop_drop, d19, ← List.drop_drop, List.drop_left' hT]; rfl
  refine ⟨by rw [hL]; rfl, by rw [hL]; rfl, by rw [hL]; rfl, ?_, by rw [d3, List.take_left' hA], by rw [d7, List.take_left' hB], by rw [d11, List.take_left' hC], by rw [d19, List.take_left' hT], d20⟩
  have : (L.drop 17)[0]? = some p := by rw [d17]; rfl
  rwa [List.getElem?_drop] at this

theorem bytes_ext {a b : ByteArray} (h : a.data.toList = b.data.toList) : a = b := Go.WideShapes.bytes_inj h

/-- The bytes of a message that is right have the right form, and tell that message. -/
theorem shape_pack (m : Msg) (hS : soundB m = true) : ∃ h : Shape ⟨(packL m).toArray⟩ m.key.size, shapeM ⟨(packL m).toArray⟩ m.key.size h.le = m := by
  obtain ⟨s, hs⟩ : ∃ s : ByteArray, s = ⟨(packL m).toArray⟩ := ⟨_, rfl⟩
  rw [← hs]
  have hl : s.data.toList = packL m := by rw [hs]
  clear hs
  have hsz : s.size = 20 + m.key.size + m.value.size := by rw [← size_list, hl, length_packL]
  obtain ⟨h1, h2, h3, h4, h5, h6, h7, h8, h9, h10, h11, h12, h13, h14, hk4, hv16⟩ := sound_parts hS
  have g18 : s[18] = UInt8.ofNat m.key.size := byte_of_list (by omega) (by rw [hl]; exact pack_get18 m)
  have gv : s[19 + m.key.size] = UInt8.ofNat m.value.size := byte_of_list (by omega) (by rw [hl]; exact pack_getv m)
  have hSh : Shape s m.key.size := ⟨by omega, by rw [g18, UInt8.toNat_ofNat']; omega, by rw [gv, UInt8.toNat_ofNat']; omega⟩
  refine ⟨hSh, ?_⟩
  obtain ⟨q0, q1, q2, q17, q3, q7, q11, q19, q20⟩ := parts_of (hl.trans (packL_places m)) (length_highL _ _) (length_highL _ _) (length_highL _ _) (size_list m.key)
  have b0 : s[0] = u8 m.kind := byte_of_list (by omega) q0
  have b1 : s[1] = u8 m.frm := byte_of_list (by omega) q1
  have b2 : s[2] = u8 m.to := byte_of_list (by omega) q2
  have b17 : s[17] = u8 m.present := byte_of_list (by omega) q17
  have e3 : (s.extract 3 7).data.toList = highL m.serial.toNat 4 := by rw [Lib.extract_data]; exact q3
  have e7 : (s.extract 7 11).data.toList = highL (m.version + 1).toNat 4 := by rw [Lib.extract_data]; exact q7
  have e11 : (s.extract 11 17).data.toList = highL m.age.toNat 6 := by rw [Lib.extract_data]; exact q11
  have e19 : s.extract 19 (19 + m.key.size) = m.key := bytes_ext (by rw [Lib.extract_data, show 19 + m.key.size - 19 = m.key.size by omega]; exact q19)
  have e20 : s.extract (20 + m.key.size) s.size = m.value := bytes_ext (by
    rw [Lib.extract_data, q20]
    apply List.take_of_length_le
    rw [size_list]; omega)
  have n3 : ((numL (s.extract 3 7).data.toList : Nat) : Int) = m.serial := by rw [e3, numL_high 4 _ (by omega)]; omega
  have n7 : ((numL (s.extract 7 11).data.toList : Nat) : Int) - 1 = m.version := by rw [e7, numL_high 4 _ (by omega)]; omega
  have n11 : ((numL (s.extract 11 17).data.toList : Nat) : Int) = m.age := by rw [e11, numL_high 6 _ (by omega)]; omega
  have u0 : ((s[0].toNat : Nat) : Int) = m.kind := by rw [b0]; exact u8_is (by omega) (by omega)
  have u1 : ((s[1].toNat : Nat) : Int) = m.frm := by rw [b1]; exact u8_is h3 h4
  have u2 : ((s[2].toNat : Nat) : Int) = m.to := by rw [b2]; exact u8_is h5 h6
  have u17 : ((s[17].toNat : Nat) : Int) = m.present := by rw [b17]; exact u8_is h13 (by omega)
  show msgOf s _ _ _ = m
  rw [msgOf, e19, e20, n3, n7, n11, u0, u1, u2, u17]

theorem answers_pack (m : Msg) (hS : soundB m = true) : Answers ⟨(packL m).toArray⟩ m 0 := by
  obtain ⟨h, e⟩ := shape_pack m hS
  exact .inl ⟨_, h, by rw [e, gotM, hS]; rfl, by rw [e, packE, hS]; rfl⟩

theorem answers_ok {s : ByteArray} {m : Msg} {e : Int} (h : Answers s m e) : (e = 0 ∧ soundB m = true ∧ packL m = s.data.toList) ∨ e = 9 := by
  rcases h with ⟨k, h, rfl, rfl⟩ | ⟨_, _, rfl⟩
  · cases hS : soundB (shapeM s k h.le) with
    | true =>
      left
      have e1 : gotM (shapeM s k h.le) = shapeM s k h.le := by rw [gotM, hS]; rfl
      rw [e1]
      exact ⟨by rw [packE, hS]; rfl, hS, pack_yes s k h⟩
    | false => exact .inr (by rw [packE, hS]; rfl)
  · exact .inr rfl

/-- Which of n things a number speaks of. -/
def pickN (c n : Int) : Int := (if c < 0 then -(c + 1) else c) % n
theorem pickN_ok (c : Int) {n : Int} (hn : 0 < n) : 0 ≤ pickN c n ∧ pickN c n < n := ⟨Int.emod_nonneg _ (by omega), Int.emod_lt_of_pos _ hn⟩

set_option maxHeartbeats 400000 in
theorem pick_any (c n : Int) (w : World) (hc : -9223372036854775808 ≤ c ∧ c ≤ 9223372036854775807) (hn : 0 < n ∧ n ≤ 9223372036854775807) :
    Calls Tryd.prog 13 #[.int .i64 c, .int .i64 n] w fun e w' => e = .returned (.int .i64 (pickN c n)) ∧ w' = w := by
  by_cases h : c < 0
  · have hz : (n == 0) = false := by simp; omega
    go_enter Tryd.func13, Tryd.ntmps13
    go_wp2
    go_ret
    exact ⟨ret_int1 (by rw [pickN, if_pos h, ← Int.neg_tmod, Int.tmod_eq_emod_of_nonneg (by omega)]), rfl⟩
  · have hz : (n == 0) = false := by simp; omega
    go_enter Tryd.func13, Tryd.ntmps13
    go_wp2
    go_ret
    exact ⟨ret_int1 (by rw [pickN, if_neg (by omega)]), rfl⟩

end Go.Proofs.YtpdkojgepagbnaaDoor
