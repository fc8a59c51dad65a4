/-
  Keys and values: what the program's and the document's tests on texts answer.
-/
import Derived.Test.YtpdkojgepagbnaaDoorWR1
import Derived.Lib.Strings
namespace Go.Proofs.YtpdkojgepagbnaaDoor
open Go.RowKit

/-- A byte of a key. -/
def letB (c : UInt8) : Bool := decide (97 ≤ c.toNat) && decide (c.toNat ≤ 122)

/-- What the table of a key's bytes holds. -/
def KeyTab (w : World) : Prop := w.cell? ⟨1, 0, none⟩ = some (.int .u64 0) ∧ w.cell? ⟨1, 1, none⟩ = some (.int .u64 576460743713488896) ∧ w.cell? ⟨1, 2, none⟩ = some (.int .u64 0) ∧ w.cell? ⟨1, 3, none⟩ = some (.int .u64 0)

theorem bits0 : (bits BinOp.and IntKind.u64 0 1 == 1) = false := by decide
theorem bits1 : ∀ r : Nat, r < 64 → (bits BinOp.and IntKind.u64 (576460743713488896 / 2 ^ r) 1 == 1) = (decide (33 ≤ r) && decide (r ≤ 58)) := by decide +kernel

set_option maxHeartbeats 400000 in
theorem keyByte_any (c : UInt8) (w : World) (h : KeyTab w) :
    Calls Tryd.prog 101 #[.int .u8 (c.toNat : Int)] w fun e w' => e = .returned (.bool (letB c)) ∧ w' = w := by
  obtain ⟨k0, k1, k2, k3⟩ := h
  have hc : c.toNat < 256 := c.toNat_lt
  generalize hn : c.toNat = n at *
  have HN := hide hn
  clear hn
  have hlo : (0 : Int) ≤ (n : Int) := by omega
  have hhi : (n : Int) ≤ 255 := by omega
  by_cases q0 : n < 64
  · have e1 : ((n : Int) / 64) = 0 := by omega
    go_enter Tryd.func101, Tryd.ntmps101
    go_wp2
    go_ret
    exact ⟨ret_bool (by rw [bits0]; simp [letB, unhide HN]; omega), rfl⟩
  · by_cases q1 : n < 128
    · have e1 : ((n : Int) / 64) = 1 := by omega
      have e2 : ((n : Int) % 64) = (n : Int) - 64 := by omega
      go_enter Tryd.func101, Tryd.ntmps101
      go_wp2
      go_ret
      exact ⟨ret_bool (by rw [bits1 (n - 64) (by omega), letB, unhide HN]; congr 1 <;> (apply decide_eq_decide.2; omega)), rfl⟩
    · by_cases q2 : n < 192
      · have e1 : ((n : Int) / 64) = 2 := by omega
        go_enter Tryd.func101, Tryd.ntmps101
        go_wp2
        go_ret
        exact ⟨ret_bool (by rw [bits0]; simp [letB, unhide HN]; omega), rfl⟩
      · have e1 : ((n : Int) / 64) = 3 := by omega
        go_enter Tryd.func101, Tryd.ntmps101
        go_wp2
        go_ret
        exact ⟨ret_bool (by rw [bits0]; simp [letB, unhide HN]; omega), rfl⟩

/-- Is a text a key? -/
def keyB (s : ByteArray) : Bool := Nums.inB (s.size : Int) 1 4 && s.data.toList.all letB

theorem keyB_len {s : ByteArray} (h : Nums.inB (s.size : Int) 1 4 = false) : keyB s = false := by simp [keyB, h]
theorem keyB_all {s : ByteArray} (h : Nums.inB (s.size : Int) 1 4 = true) (ha : ∀ j (hj : j < s.size), letB s[j] = true) : keyB s = true := by
  rw [keyB, h, Bool.true_and, List.all_eq_true]
  intro x hx
  obtain ⟨j, hj, rfl⟩ := List.mem_iff_getElem.1 hx
  have hj' : j < s.size := by simpa using hj
  exact ha j hj'
theorem keyB_one {s : ByteArray} {j : Nat} (hj : j < s.size) (h : letB s[j] = false) : keyB s = false := by
  have : s.data.toList.all letB = false := by
    rw [List.all_eq_false]
    refine ⟨s.data.toList[j]'(by simpa using hj), List.getElem_mem _, ?_⟩
    have e : s.data.toList[j]'(by simpa using hj) = s[j] := rfl
    rw [e, h]; simp
  simp [keyB, this]

set_option maxHeartbeats 400000 in
theorem isKey_any (s : ByteArray) (w : World) (hs : s.size ≤ maxLen) (h : KeyTab w) :
    Calls Tryd.prog 82 #[.string s] w fun e w' => e = .returned (.bool (keyB s)) ∧ w' = w := by
  unfold maxLen at hs
  have HT := hide h
  clear h
  cases hin : Nums.inB (s.size : Int) 1 4 with
  | false =>
    have HI := hide (keyB_len hin)
    go_enter Tryd.func82, Tryd.ntmps82
    go_wp2_with (go_at_call 53; refine (within_any _ _ _ _).mono ?_; rintro e w' ⟨rfl, rfl⟩)
    go_ret
    exact ⟨ret_bool (unhide HI).symm, rfl⟩
  | true =>
    have h14 := Nums.inB_iff.1 hin
    have HIN := hide hin
    go_enter Tryd.func82, Tryd.ntmps82
    go_wp2_with (go_at_call 53; refine (within_any _ _ _ _).mono ?_; rintro e w' ⟨rfl, rfl⟩)
    clear hin
    go_loop [3, 10] (fun _ i => ∃ r : Nat, r ≤ s.size ∧ i = .int .i64 r ∧ Hid (∀ j (hj : j < s.size), j < r → letB s[j] = true)) (fun _ i => s.size - (intOf i).toNat)
    case atStart => exact ⟨0, Nat.zero_le _, rfl, fun j _ hj => by omega⟩
    case round =>
      obtain ⟨r, hr, rfl, HA⟩ := hrel
      by_cases hlt : r < s.size
      · have hlt' : (r : Int) < (s.size : Int) := by omega
        go_wp2_with fail
        refine (keyByte_any s[r] _ (unhide HT)).mono ?_
        rintro e w' ⟨rfl, rfl⟩
        cases hl : letB s[r] with
        | true =>
          have HL := hide hl
          clear hl
          go_wp2
          refine ⟨⟨r + 1, by omega, by go_num, ?_⟩, by simp [intOf]; omega⟩
          intro j hj hjr
          by_cases e : j = r
          · subst e; exact unhide HL
          · exact unhide HA j hj (by omega)
        | false =>
          have HL := hide hl
          clear hl
          go_wp2
          go_ret
          exact ⟨ret_bool (keyB_one hlt (unhide HL)).symm, rfl⟩
      · go_wp2
        go_ret
        exact ⟨ret_bool (keyB_all (unhide HIN) fun j hj => unhide HA j hj (by omega)).symm, rfl⟩

theorem letB_of {c : UInt8} (h1 : ¬ (c.toNat : Int) < 97) (h2 : ¬ 122 < (c.toNat : Int)) : letB c = true := by simp [letB]; omega
theorem letB_lo {c : UInt8} (h1 : (c.toNat : Int) < 97) : letB c = false := by simp [letB]; omega
theorem letB_hi {c : UInt8} (h1 : 122 < (c.toNat : Int)) : letB c = false := by simp [letB]; omega

set_option maxHeartbeats 400000 in
theorem key_any (s : ByteArray) (w : World) (hs : s.size ≤ maxLen) :
    Calls Tryd.prog 91 #[.string s] w fun e w' => e = .returned (.bool (keyB s)) ∧ w' = w := by
  unfold maxLen at hs
  go_enter Tryd.func91, Tryd.ntmps91
  go_wp2
  go_loop [3] (fun i => ∃ r : Nat, r ≤ s.size ∧ i = .int .i64 r ∧ Hid (∀ j (hj : j < s.size), j < r → letB s[j] = true)) (fun i => s.size - (intOf i).toNat)
  case atStart => exact ⟨0, Nat.zero_le _, rfl, fun j _ hj => by omega⟩
  case round =>
    obtain ⟨r, hr, rfl, HA⟩ := hrel
    by_cases hlt : r < s.size
    · by_cases c1 : (s[r].toNat : Int) < 97
      · have HL := hide (letB_lo c1)
        go_wp2
        go_ret
        exact ⟨ret_bool (keyB_one hlt (unhide HL)).symm, rfl⟩
      · by_cases c2 : 122 < (s[r].toNat : Int)
        · have HL := hide (letB_hi c2)
          go_wp2
          go_ret
          exact ⟨ret_bool (keyB_one hlt (unhide HL)).symm, rfl⟩
        · have HL := hide (letB_of c1 c2)
          go_wp2
          refine ⟨⟨r + 1, by omega, by go_num, ?_⟩, by simp [intOf]; omega⟩
          intro j hj hjr
          by_cases e : j = r
          · subst e; exact unhide HL
          · exact unhide HA j hj (by omega)
    · have HK : Hid (keyB s = (decide (1 ≤ (s.size : Int)) && decide ((s.size : Int) ≤ 4))) := by
        show _ = _
        cases hin : Nums.inB (s.size : Int) 1 4 with
        | true => rw [keyB_all hin fun j hj => unhide HA j hj (by omega)]; exact hin.symm
        | false => rw [keyB_len hin]; exact hin.symm
      by_cases l1 : 1 ≤ (s.size : Int)
      · go_wp2
        go_ret
        exact ⟨ret_bool (by rw [unhide HK]; simp; omega), rfl⟩
      · go_wp2
        go_ret
        exact ⟨ret_bool (by rw [unhide HK]; simp; omega), rfl⟩

def valB (s : ByteArray) : Bool := decide ((s.size : Int) ≤ 16)

theorem isValue_any (s : ByteArray) (w : World) :
    Calls Tryd.prog 92 #[.string s] w fun e w' => e = .returned (.bool (valB s)) ∧ w' = w := by
  go_enter Tryd.func92, Tryd.ntmps92
  go_wp2
  go_ret
  exact ⟨rfl, rfl⟩

end Go.Proofs.YtpdkojgepagbnaaDoor
