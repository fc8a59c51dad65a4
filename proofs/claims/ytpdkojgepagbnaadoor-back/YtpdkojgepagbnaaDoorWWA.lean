/-
  Unpack: all the ways of the program, in one.
-/
import Derived.Test.YtpdkojgepagbnaaDoorWW9
namespace Go.Proofs.YtpdkojgepagbnaaDoor
set_option maxRecDepth 100000
open Go.RowKit

theorem empty_true {s : ByteArray} (h : s.size = 0) : s.toList.isEmpty = true := by
  rw [Lib.toList_data, List.isEmpty_iff]
  apply List.eq_nil_of_length_eq_zero
  rw [← Lib.size_eq]; exact h
theorem empty_false {s : ByteArray} (h : 0 < s.size) : s.toList.isEmpty = false := by
  rw [Lib.toList_data, List.isEmpty_eq_false_iff]
  intro e
  rw [Lib.size_eq, e] at h
  cases h

/-- The first text is cut off too early. -/
theorem cut_not (x : ByteArray) (w : World) (hm : x.size ≤ maxLen) (h : ∀ h0 : 0 < x.size, x.size < 1 + x[0].toNat) :
    Calls Tryd.prog 66 #[.string x] w fun e w' => e = .returned (.tuple #[.string ⟨#[]⟩, .string ⟨#[]⟩, .bool false]) ∧ w' = w := by
  by_cases h0 : 0 < x.size
  · exact cut_short x _ w hm h0 (empty_false h0) rfl (by have := h h0; omega)
  · exact cut_empty x w (empty_true (by omega))

set_option maxHeartbeats 1000000 in
theorem wireUnpack_cut1 (s : ByteArray) (w : World) (hm : s.size ≤ maxLen) (h18 : 18 ≤ s.size) (x : ByteArray) (hx : s.extract 18 s.size = x) (hn : ∀ h0 : 0 < x.size, x.size < 1 + x[0].toNat) :
    Calls Tryd.prog 36 #[.string s] w fun e w' => e = .returned (.tuple #[.agg noMsg.cells, .int .i64 9]) ∧ Below w.heap.size w w' := by
  have hm1 : x.size ≤ maxLen := by rw [← hx, ByteArray.size_extract]; unfold maxLen at *; omega
  unfold maxLen at hm
  have HN := hide hn
  clear hn
  go_enter Tryd.func36, Tryd.ntmps36
  go_wp2_with fail
  refine (cut_not x _ hm1 (unhide HN)).mono ?_
  rintro e w1 ⟨rfl, rfl⟩
  go_wp2_with fail
  refine (cut_not ⟨#[]⟩ _ (Nat.zero_le _) (fun h => by cases h)).mono ?_
  rintro e w1 ⟨rfl, rfl⟩
  go_wp2
  exact bodyPost_ret (v := .tuple #[.agg #[.int .i64 0, .int .i64 0, .int .i64 0, .string ⟨#[]⟩, .int .i64 0, .int .i64 0, .int .i64 0, .int .i64 0, .string ⟨#[]⟩], .int .i64 9]) (by simp [results, Tryd.results36, go_sem]) rfl ⟨rfl, (Below.refl _ _).alloc (Nat.le_refl _) _⟩

set_option maxHeartbeats 1000000 in
theorem wireUnpack_cut2 (s : ByteArray) (k : Nat) (w : World) (hm : s.size ≤ maxLen) (h18 : 18 ≤ s.size) (x : ByteArray) (hx : s.extract 18 s.size = x) (h0 : 0 < x.size) (hk0 : x[0].toNat = k) (hkl : 1 + k ≤ x.size)
    (r : ByteArray) (hr : x.extract (1 + k) x.size = r) (hn : ∀ h0 : 0 < r.size, r.size < 1 + r[0].toNat) :
    Calls Tryd.prog 36 #[.string s] w fun e w' => e = .returned (.tuple #[.agg noMsg.cells, .int .i64 9]) ∧ Below w.heap.size w w' := by
  have hm1 : x.size ≤ maxLen := by rw [← hx, ByteArray.size_extract]; unfold maxLen at *; omega
  have hrm : r.size ≤ maxLen := by rw [← hr, ByteArray.size_extract]; unfold maxLen at *; omega
  unfold maxLen at hm
  have hk := empty_false h0
  have HR := hide hr
  have HN := hide hn
  clear hr hn
  go_enter Tryd.func36, Tryd.ntmps36
  go_wp2_with fail
  refine (cut_whole x k _ hm1 h0 hk hk0 hkl).mono ?_
  rintro e w1 ⟨rfl, n1, rfl⟩
  rw [unhide HR]
  generalize x.extract 1 (1 + k) = key at *
  go_wp2_with fail
  refine (cut_not r _ hrm (unhide HN)).mono ?_
  rintro e w1 ⟨rfl, rfl⟩
  clear hk h0 hk0 hkl HR HN hm1 hrm hx
  go_wp2
  exact bodyPost_ret (v := .tuple #[.agg #[.int .i64 0, .int .i64 0, .int .i64 0, .string ⟨#[]⟩, .int .i64 0, .int .i64 0, .int .i64 0, .int .i64 0, .string ⟨#[]⟩], .int .i64 9]) (by simp [results, Tryd.results36, go_sem]) rfl ⟨rfl, ((((((((((below_drewN ((Below.refl _ _).alloc (Nat.le_refl _) _) _).setCell (Nat.le_refl _) _).setCell (Nat.le_refl _) _).setCell (Nat.le_refl _) _).setCell (Nat.le_refl _) _).setCell (Nat.le_refl _) _).setCell (Nat.le_refl _) _).setCell (Nat.le_refl _) _).setCell (Nat.le_refl _) _).setCell (Nat.le_refl _) _)⟩

set_option maxHeartbeats 1000000 in
theorem wireUnpack_left (s : ByteArray) (k v : Nat) (w : World) (hm : s.size ≤ maxLen) (h18 : 18 ≤ s.size) (x : ByteArray) (hx : s.extract 18 s.size = x) (h0 : 0 < x.size) (hk0 : x[0].toNat = k) (hkl : 1 + k ≤ x.size)
    (r : ByteArray) (hr : x.extract (1 + k) x.size = r) (hr0 : 0 < r.size) (hv0 : r[0].toNat = v) (hvl : 1 + v ≤ r.size) (hend : 0 < (r.extract (1 + v) r.size).size) :
    Calls Tryd.prog 36 #[.string s] w fun e w' => e = .returned (.tuple #[.agg noMsg.cells, .int .i64 9]) ∧ Below w.heap.size w w' := by
  have hm1 : x.size ≤ maxLen := by rw [← hx, ByteArray.size_extract]; unfold maxLen at *; omega
  have hrm : r.size ≤ maxLen := by rw [← hr, ByteArray.size_extract]; unfold maxLen at *; omega
  unfold maxLen at hm
  have hk := empty_false h0
  have hre := empty_false hr0
  have hze := empty_false hend
  have HR := hide hr
  clear hr
  go_enter Tryd.func36, Tryd.ntmps36
  go_wp2_with fail
  refine (cut_whole x k _ hm1 h0 hk hk0 hkl).mono ?_
  rintro e w1 ⟨rfl, n1, rfl⟩
  rw [unhide HR]
  generalize x.extract 1 (1 + k) = key at *
  go_wp2_with fail
  refine (cut_whole r v _ hrm hr0 hre hv0 hvl).mono ?_
  rintro e w1 ⟨rfl, n2, rfl⟩
  generalize r.extract 1 (1 + v) = val at *
  generalize r.extract (1 + v) r.size = z at *
  clear hk h0 hk0 hkl hre hr0 hv0 hvl HR hm1 hrm hx hend
  go_wp2
  exact bodyPost_ret (v := .tuple #[.agg #[.int .i64 0, .int .i64 0, .int .i64 0, .string ⟨#[]⟩, .int .i64 0, .int .i64 0, .int .i64 0, .int .i64 0, .string ⟨#[]⟩], .int .i64 9]) (by simp [results, Tryd.results36, go_sem]) rfl ⟨rfl, ((((((((((below_drewN ((Below.refl _ _).alloc (Nat.le_refl _) _) _).setCell (Nat.le_refl _) _).setCell (Nat.le_refl _) _).setCell (Nat.le_refl _) _).setCell (Nat.le_refl _) _).setCell (Nat.le_refl _) _).setCell (Nat.le_refl _) _).setCell (Nat.le_refl _) _).setCell (Nat.le_refl _) _).setCell (Nat.le_refl _) _)⟩

theorem byte_at (s : ByteArray) (a b i j : Nat) (hj : a + i = j) (h : i < (s.extract a b).size) (h' : j < s.size) : (s.extract a b)[i].toNat = s[j].toNat := by
  subst hj
  rw [ByteArray.getElem_extract]

/-- Some bytes have the form of a message whose key has k letters. -/
structure Shape (s : ByteArray) (k : Nat) : Prop where
  len : 20 + k ≤ s.size
  hk : (s[18]'(by omega)).toNat = k
  hv : (s[19 + k]'(by omega)).toNat = s.size - (20 + k)

theorem Shape.le {s : ByteArray} {k : Nat} (h : Shape s k) : 18 ≤ s.size := by have := h.len; omega

/-- The message that the places tell. -/
def shapeM (s : ByteArray) (k : Nat) (h : 18 ≤ s.size) : Msg := msgOf s (s.extract 19 (19 + k)) (s.extract (20 + k) s.size) h

theorem wireUnpack_yes (s : ByteArray) (k : Nat) (w : World) (hm : s.size ≤ maxLen) (h : Shape s k) (hT : KindTab w) (hK : KeyTab w) :
    Calls Tryd.prog 36 #[.string s] w fun e w' => e = .returned (.tuple #[.agg (gotM (shapeM s k h.le)).cells, .int .i64 (packE (shapeM s k h.le))]) ∧ Below w.heap.size w w' := by
  have hl := h.len
  have hxs : (s.extract 18 s.size).size = s.size - 18 := by rw [ByteArray.size_extract]; omega
  have hk0 : ((s.extract 18 s.size)[0]'(by omega)).toNat = k := (byte_at s 18 s.size 0 18 rfl (by omega) (by omega)).trans h.hk
  have hre : (s.extract 18 s.size).extract (1 + k) (s.extract 18 s.size).size = s.extract (19 + k) s.size := by rw [ByteArray.extract_extract, hxs, show 18 + (1 + k) = 19 + k by omega, show min (18 + (s.size - 18)) s.size = s.size by omega]
  have hrs : (s.extract (19 + k) s.size).size = s.size - (19 + k) := by rw [ByteArray.size_extract]; omega
  have hv0 : ((s.extract (19 + k) s.size)[0]'(by omega)).toNat = s.size - (20 + k) := (byte_at s (19 + k) s.size 0 (19 + k) rfl (by omega) (by omega)).trans h.hv
  have e1 : (s.extract 18 s.size).extract 1 (1 + k) = s.extract 19 (19 + k) := by rw [ByteArray.extract_extract, show min (18 + (1 + k)) s.size = 19 + k by omega]
  have e2 : (s.extract (19 + k) s.size).extract 1 (1 + (s.size - (20 + k))) = s.extract (20 + k) s.size := by rw [ByteArray.extract_extract, show 19 + k + 1 = 20 + k by omega, show min (19 + k + (1 + (s.size - (20 + k)))) s.size = s.size by omega]
  have z0 : 0 < (s.extract 18 s.size).size := by omega
  have z1 : 1 + k ≤ (s.extract 18 s.size).size := by omega
  have z2 : 0 < (s.extract (19 + k) s.size).size := by omega
  have z3 : 1 + (s.size - (20 + k)) ≤ (s.extract (19 + k) s.size).size := by omega
  have z4 : ((s.extract (19 + k) s.size).extract (1 + (s.size - (20 + k))) (s.extract (19 + k) s.size).size).size = 0 := by rw [ByteArray.size_extract]; omega
  have this := wireUnpack_all s k (s.size - (20 + k)) w hm h.le (s.extract 18 s.size) rfl (empty_false z0) z0 hk0 z1 (s.extract (19 + k) s.size) hre (empty_false z2) z2 hv0 z3 (empty_true z4) hT hK
  rw [e1, e2] at this
  exact this

theorem wireUnpack_no (s : ByteArray) (w : World) (hm : s.size ≤ maxLen) (h : ∀ k, ¬ Shape s k) :
    Calls Tryd.prog 36 #[.string s] w fun e w' => e = .returned (.tuple #[.agg noMsg.cells, .int .i64 9]) ∧ Below w.heap.size w w' := by
  by_cases h18 : 18 ≤ s.size
  · obtain ⟨x, hx⟩ : ∃ x, s.extract 18 s.size = x := ⟨_, rfl⟩
    have hxs : x.size = s.size - 18 := by rw [← hx, ByteArray.size_extract]; omega
    by_cases h0 : 0 < x.size
    · obtain ⟨k, hk0⟩ : ∃ k, x[0].toNat = k := ⟨_, rfl⟩
      by_cases hkl : 1 + k ≤ x.size
      · obtain ⟨r, hr⟩ : ∃ r, x.extract (1 + k) x.size = r := ⟨_, rfl⟩
        have hrs : r.size = s.size - (19 + k) := by rw [← hr, ByteArray.size_extract]; omega
        by_cases hr0 : 0 < r.size
        · obtain ⟨v, hv0⟩ : ∃ v, r[0].toNat = v := ⟨_, rfl⟩
          by_cases hvl : 1 + v ≤ r.size
          · refine wireUnpack_left s k v w hm h18 x hx h0 hk0 hkl r hr hr0 hv0 hvl ?_
            rw [ByteArray.size_extract]
            apply Classical.byContradiction
            intro hz
            have hv1 : v = s.size - (20 + k) := by omega
            have hk1 : (s[18]'(by omega)).toNat = k := by
              subst hx
              exact (byte_at s 18 s.size 0 18 rfl h0 (by omega)).symm.trans hk0
            have hv2 : (s[19 + k]'(by omega)).toNat = v := by
              subst hr
              have e1 := byte_at x (1 + k) x.size 0 (1 + k) rfl hr0 (by omega)
              rw [hv0] at e1
              subst hx
              have e2 := byte_at s 18 s.size (1 + k) (19 + k) (by omega) (by omega) (by omega)
              exact e2.symm.trans e1.symm
            exact h k ⟨by omega, hk1, hv2.trans hv1⟩
          · exact wireUnpack_cut2 s k w hm h18 x hx h0 hk0 hkl r hr (fun _ => by rw [hv0]; omega)
        · exact wireUnpack_cut2 s k w hm h18 x hx h0 hk0 hkl r hr (fun h => absurd h hr0)
      · exact wireUnpack_cut1 s w hm h18 x hx (fun _ => by rw [hk0]; omega)
    · exact wireUnpack_cut1 s w hm h18 x hx (fun h => absurd h h0)
  · exact wireUnpack_few s w (by omega)

end Go.Proofs.YtpdkojgepagbnaaDoor
