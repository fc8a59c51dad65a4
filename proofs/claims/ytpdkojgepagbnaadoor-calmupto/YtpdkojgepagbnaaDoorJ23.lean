/-
  Keys and values: what the program's and the document's tests on texts answer.
  Which messages are right: the program by its table, the document by its cases; the same answer.
  What a caller of a tier knows of it, and the steps of a script, as plain data.
-/
import Derived.Test.YtpdkojgepagbnaaDoorJ03
import Derived.Lib.Strings
import Derived.Test.YtpdkojgepagbnaaDoorJ21
namespace Go.Proofs.YtpdkojgepagbnaaDoor
open Go.RowKit

/-- A byte of a key. -/
def letB (c : UInt8) : Bool := decide (97 ≤ c.toNat) && decide (c.toNat ≤ 122)

/-- What the table of a key's bytes holds. -/
def KeyTab (w : World) : Prop := w.cell? ⟨1, 0, none⟩ = some (.int .u64 0) ∧ w.cell? ⟨1, 1, none⟩ = some (.int .u64 576460743713488896) ∧ w.cell? ⟨1, 2, none⟩ = some (.int .u64 0) ∧ w.cell? ⟨1, 3, none⟩ = some (.int .u64 0)

theorem bits0 : (bits BinOp.and IntKind.u64 0 1 == 1) = false := by decide
theorem bits1 : ∀ r : Nat, r < 64 → (bits BinOp.and IntKind.u64 (576460743713488896 / 2 ^ r) 1 == 1) = (decide (33 ≤ r) && decide (r ≤ 58)) := by decide +kernel

set_option maxHeartbeats 400000 in
theorem keyByte_any (c : UInt8) (w : World) (h : KeyTab w) :
    Calls Tryd.prog 101 #[.int .u8 (c.toNat : Int)] w fun e w' => e = .returned (.bool (letB c)) ∧ w' = w := by
  obtain ⟨k0, k1, k2, k3⟩ := h
  have hc : c.toNat < 256 := c.toNat_lt
  generalize hn : c.toNat = n at *
  have HN := hide hn
  clear hn
  have hlo : (0 : Int) ≤ (n : Int) := by omega
  have hhi : (n : Int) ≤ 255 := by omega
  by_cases q0 : n < 64
  · have e1 : ((n : Int) / 64) = 0 := by omega
    go_enter Tryd.func101, Tryd.ntmps101
    go_wp2
    go_ret
    exact ⟨ret_bool (by rw [bits0]; simp [letB, unhide HN]; omega), rfl⟩
  · by_cases q1 : n < 128
    · have e1 : ((n : Int) / 64) = 1 := by omega
      have e2 : ((n : Int) % 64) = (n : Int) - 64 := by omega
      go_enter Tryd.func101, Tryd.ntmps101
      go_wp2
      go_ret
      exact ⟨ret_bool (by rw [bits1 (n - 64) (by omega), letB, unhide HN]; congr 1 <;> (apply decide_eq_decide.2; omega)), rfl⟩
    · by_cases q2 : n < 192
      · have e1 : ((n : Int) / 64) = 2 := by omega
        go_enter Tryd.func101, Tryd.ntmps101
        go_wp2
        go_ret
        exact ⟨ret_bool (by rw [bits0]; simp [letB, unhide HN]; omega), rfl⟩
      · have e1 : ((n : Int) / 64) = 3 := by omega
        go_enter Tryd.func101, Tryd.ntmps101
        go_wp2
        go_ret
        exact ⟨ret_bool (by rw [bits0]; simp [letB, unhide HN]; omega), rfl⟩

/-- Is a text a key? -/
def keyB (s : ByteArray) : Bool := Nums.inB (s.size : Int) 1 4 && s.data.toList.all letB

theorem keyB_len {s : ByteArray} (h : Nums.inB (s.size : Int) 1 4 = false) : keyB s = false := by simp [keyB, h]
theorem keyB_all {s : ByteArray} (h : Nums.inB (s.size : Int) 1 4 = true) (ha : ∀ j (hj : j < s.size), letB s[j] = true) : keyB s = true := by
  rw [keyB, h, Bool.true_and, List.all_eq_true]
  intro x hx
  obtain ⟨j, hj, rfl⟩ := List.mem_iff_getElem.1 hx
  have hj' : j < s.size := by simpa using hj
  exact ha j hj'
theorem keyB_one {s : ByteArray} {j : Nat} (hj : j < s.size) (h : letB s[j] = false) : keyB s = false := by
  have : s.data.toList.all letB = false := by
    rw [List.all_eq_false]
    refine ⟨s.data.toList[j]'(by simpa using hj), List.getElem_mem _, ?_⟩
    have e : s.data.toList[j]'(by simpa using hj) = s[j] := rfl
    rw [e, h]; simp
  simp [keyB, this]

set_option maxHeartbeats 400000 in
theorem isKey_any (s : ByteArray) (w : World) (hs : s.size ≤ maxLen) (h : KeyTab w) :
    Calls Tryd.prog 82 #[.string s] w fun e w' => e = .returned (.bool (keyB s)) ∧ w' = w := by
  unfold maxLen at hs
  have HT := hide h
  clear h
  cases hin : Nums.inB (s.size : Int) 1 4 with
  | false =>
    have HI := hide (keyB_len hin)
    go_enter Tryd.func82, Tryd.ntmps82
    go_wp2_with (go_at_call 53; refine (within_any _ _ _ _).mono ?_; rintro e w' ⟨rfl, rfl⟩)
    go_ret
    exact ⟨ret_bool (unhide HI).symm, rfl⟩
  | true =>
    have h14 := Nums.inB_iff.1 hin
    have HIN := hide hin
    go_enter Tryd.func82, Tryd.ntmps82
    go_wp2_with (go_at_call 53; refine (within_any _ _ _ _).mono ?_; rintro e w' ⟨rfl, rfl⟩)
    clear hin
    go_loop [3, 10] (fun _ i => ∃ r : Nat, r ≤ s.size ∧ i = .int .i64 r ∧ Hid (∀ j (hj : j < s.size), j < r → letB s[j] = true)) (fun _ i => s.size - (intOf i).toNat)
    case atStart => exact ⟨0, Nat.zero_le _, rfl, fun j _ hj => by omega⟩
    case round =>
      obtain ⟨r, hr, rfl, HA⟩ := hrel
      by_cases hlt : r < s.size
      · have hlt' : (r : Int) < (s.size : Int) := by omega
        go_wp2_with fail
        refine (keyByte_any s[r] _ (unhide HT)).mono ?_
        rintro e w' ⟨rfl, rfl⟩
        cases hl : letB s[r] with
        | true =>
          have HL := hide hl
          clear hl
          go_wp2
          refine ⟨⟨r + 1, by omega, by go_num, ?_⟩, by simp [intOf]; omega⟩
          intro j hj hjr
          by_cases e : j = r
          · subst e; exact unhide HL
          · exact unhide HA j hj (by omega)
        | false =>
          have HL := hide hl
          clear hl
          go_wp2
          go_ret
          exact ⟨ret_bool (keyB_one hlt (unhide HL)).symm, rfl⟩
      · go_wp2
        go_ret
        exact ⟨ret_bool (keyB_all (unhide HIN) fun j hj => unhide HA j hj (by omega)).symm, rfl⟩

theorem letB_of {c : UInt8} (h1 : ¬ (c.toNat : Int) < 97) (h2 : ¬ 122 < (c.toNat : Int)) : letB c = true := by simp [letB]; omega
theorem letB_lo {c : UInt8} (h1 : (c.toNat : Int) < 97) : letB c = false := by simp [letB]; omega
theorem letB_hi {c : UInt8} (h1 : 122 < (c.toNat : Int)) : letB c = false := by simp [letB]; omega

set_option maxHeartbeats 400000 in
theorem key_any (s : ByteArray) (w : World) (hs : s.size ≤ maxLen) :
    Calls Tryd.prog 91 #[.string s] w fun e w' => e = .returned (.bool (keyB s)) ∧ w' = w := by
  unfold maxLen at hs
  go_enter Tryd.func91, Tryd.ntmps91
  go_wp2
  go_loop [3] (fun i => ∃ r : Nat, r ≤ s.size ∧ i = .int .i64 r ∧ Hid (∀ j (hj : j < s.size), j < r → letB s[j] = true)) (fun i => s.size - (intOf i).toNat)
  case atStart => exact ⟨0, Nat.zero_le _, rfl, fun j _ hj => by omega⟩
  case round =>
    obtain ⟨r, hr, rfl, HA⟩ := hrel
    by_cases hlt : r < s.size
    · by_cases c1 : (s[r].toNat : Int) < 97
      · have HL := hide (letB_lo c1)
        go_wp2
        go_ret
        exact ⟨ret_bool (keyB_one hlt (unhide HL)).symm, rfl⟩
      · by_cases c2 : 122 < (s[r].toNat : Int)
        · have HL := hide (letB_hi c2)
          go_wp2
          go_ret
          exact ⟨ret_bool (keyB_one hlt (unhide HL)).symm, rfl⟩
        · have HL := hide (letB_of c1 c2)
          go_wp2
          refine ⟨⟨r + 1, by omega, by go_num, ?_⟩, by simp [intOf]; omega⟩
          intro j hj hjr
          by_cases e : j = r
          · subst e; exact unhide HL
          · exact unhide HA j hj (by omega)
    · have HK : Hid (keyB s = (decide (1 ≤ (s.size : Int)) && decide ((s.size : Int) ≤ 4))) := by
        show _ = _
        cases hin : Nums.inB (s.size : Int) 1 4 with
        | true => rw [keyB_all hin fun j hj => unhide HA j hj (by omega)]; exact hin.symm
        | false => rw [keyB_len hin]; exact hin.symm
      by_cases l1 : 1 ≤ (s.size : Int)
      · go_wp2
        go_ret
        exact ⟨ret_bool (by rw [unhide HK]; simp; omega), rfl⟩
      · go_wp2
        go_ret
        exact ⟨ret_bool (by rw [unhide HK]; simp; omega), rfl⟩

def valB (s : ByteArray) : Bool := decide ((s.size : Int) ≤ 16)

theorem isValue_any (s : ByteArray) (w : World) :
    Calls Tryd.prog 92 #[.string s] w fun e w' => e = .returned (.bool (valB s)) ∧ w' = w := by
  go_enter Tryd.func92, Tryd.ntmps92
  go_wp2
  go_ret
  exact ⟨rfl, rfl⟩

end Go.Proofs.YtpdkojgepagbnaaDoor

namespace Go.Proofs.YtpdkojgepagbnaaDoor
open Go.RowKit

/-- A message. -/
structure Msg where
  kind : Int
  frm : Int
  to : Int
  key : ByteArray
  serial : Int
  version : Int
  age : Int
  present : Int
  value : ByteArray

def Msg.cells (m : Msg) : Array Value := #[.int .i64 m.kind, .int .i64 m.frm, .int .i64 m.to, .string m.key, .int .i64 m.serial, .int .i64 m.version, .int .i64 m.age, .int .i64 m.present, .string m.value]

def loV (k : Int) : Int := if k = 1 then -1 else 0
def hiV (k : Int) : Int := if k = 4 then 0 else 2147483647
def hiA (k : Int) : Int := if k = 2 ∨ k = 3 then 281474976710655 else 0
def hiP (k : Int) : Int := if k = 2 then 1 else 0

/-- Is a message right? -/
def soundB (m : Msg) : Bool :=
  Nums.inB m.kind 1 4 && Nums.inB m.frm 0 255 && Nums.inB m.to 0 255 && Nums.inB m.serial 0 4294967295 && Nums.inB m.version (loV m.kind) (hiV m.kind) && Nums.inB m.age 0 (hiA m.kind) && Nums.inB m.present 0 (hiP m.kind) &&
    keyB m.key && valB m.value && ((m.present == 1) || m.value.toList.isEmpty)

/-- What the table of kinds holds. -/
def KindTab (w : World) : Prop := ∀ k : Nat, 1 ≤ k → k ≤ 4 → w.cell? ⟨0, k * 4, none⟩ = some (.int .i64 (loV k)) ∧ w.cell? ⟨0, k * 4 + 1, none⟩ = some (.int .i64 (hiV k)) ∧
  w.cell? ⟨0, k * 4 + 2, none⟩ = some (.int .i64 (hiA k)) ∧ w.cell? ⟨0, k * 4 + 3, none⟩ = some (.int .i64 (hiP k))

theorem KindTab.later {w w' : World} (h : KindTab w) (hb : Below w.heap.size w w') : KindTab w' := fun k h1 h2 => by
  obtain ⟨a, b, c, d⟩ := h k h1 h2
  exact ⟨cell_later hb a, cell_later hb b, cell_later hb c, cell_later hb d⟩
theorem KeyTab.later {w w' : World} (h : KeyTab w) (hb : Below w.heap.size w w') : KeyTab w' := by
  obtain ⟨a, b, c, d⟩ := h
  exact ⟨cell_later hb a, cell_later hb b, cell_later hb c, cell_later hb d⟩
theorem below_alloc1' (w : World) (o : Obj) : Below w.heap.size w (w.alloc o) := (Below.refl _ _).alloc (Nat.le_refl _) _

set_option maxHeartbeats 2000000 in
theorem right_kind (m : Msg) (k : Nat) (lo hi ma mp : Int) (w : World) (hkk : m.kind = k) (hk : Nums.inB k 1 4 = true) (hkey : m.key.size ≤ maxLen)
    (t0 : w.cell? ⟨0, k * 4, none⟩ = some (.int .i64 lo)) (t1 : w.cell? ⟨0, k * 4 + 1, none⟩ = some (.int .i64 hi)) (t2 : w.cell? ⟨0, k * 4 + 2, none⟩ = some (.int .i64 ma)) (t3 : w.cell? ⟨0, k * 4 + 3, none⟩ = some (.int .i64 mp))
    (hS : soundB m = (Nums.inB m.frm 0 255 && Nums.inB m.to 0 255 && Nums.inB m.serial 0 4294967295 && Nums.inB m.version lo hi && Nums.inB m.age 0 ma && Nums.inB m.present 0 mp && keyB m.key && valB m.value && ((m.present == 1) || m.value.toList.isEmpty))) (hK : KeyTab w) :
    Calls Tryd.prog 63 #[.agg #[.int .i64 m.kind, .int .i64 m.frm, .int .i64 m.to, .string m.key, .int .i64 m.serial, .int .i64 m.version, .int .i64 m.age, .int .i64 m.present, .string m.value]] w fun e w' => e = .returned (.bool (soundB m)) ∧ Below w.heap.size w w' := by
  have h14 := Nums.inB_iff.1 hk
  have HKT : Hid (∀ o1 o2, KeyTab ((w.alloc o1).alloc o2)) := fun o1 o2 => (hK.later (below_alloc1' w o1)).later (below_alloc1' _ o2)
  have u0 := fun o => cell_later (below_alloc1' w o) t0
  have u1 := fun o => cell_later (below_alloc1' w o) t1
  have u2 := fun o => cell_later (below_alloc1' w o) t2
  have u3 := fun o => cell_later (below_alloc1' w o) t3
  clear t0 t1 t2 t3
  cases hf : Nums.inB m.frm 0 255 with
  | false =>
    have HC : Hid (soundB m = false) := by show _ = _; rw [hS, hf]; simp
    clear hS
    go_enter Tryd.func63, Tryd.ntmps63
    go_wp2_with (first | (go_at_call 53; refine (within_any _ _ _ _).mono ?_; rintro e w' ⟨rfl, rfl⟩) | (go_at_call 82; refine (isKey_any _ _ hkey (unhide HKT _ _)).mono ?_; rintro e w' ⟨rfl, rfl⟩) | (go_at_call 92; refine (isValue_any _ _).mono ?_; rintro e w' ⟨rfl, rfl⟩))
    go_ret
    exact ⟨ret_bool (unhide HC).symm, ((Below.refl _ _).alloc (Nat.le_refl _) _).alloc (by simp) _⟩
  | true =>
  cases ht : Nums.inB m.to 0 255 with
  | false =>
    have HC : Hid (soundB m = false) := by show _ = _; rw [hS, ht]; simp
    clear hS
    go_enter Tryd.func63, Tryd.ntmps63
    go_wp2_with (first | (go_at_call 53; refine (within_any _ _ _ _).mono ?_; rintro e w' ⟨rfl, rfl⟩) | (go_at_call 82; refine (isKey_any _ _ hkey (unhide HKT _ _)).mono ?_; rintro e w' ⟨rfl, rfl⟩) | (go_at_call 92; refine (isValue_any _ _).mono ?_; rintro e w' ⟨rfl, rfl⟩))
    go_ret
    exact ⟨ret_bool (unhide HC).symm, ((Below.refl _ _).alloc (Nat.le_refl _) _).alloc (by simp) _⟩
  | true =>
  cases hs : Nums.inB m.serial 0 4294967295 with
  | false =>
    have HC : Hid (soundB m = false) := by show _ = _; rw [hS, hs]; simp
    clear hS
    go_enter Tryd.func63, Tryd.ntmps63
    go_wp2_with (first | (go_at_call 53; refine (within_any _ _ _ _).mono ?_; rintro e w' ⟨rfl, rfl⟩) | (go_at_call 82; refine (isKey_any _ _ hkey (unhide HKT _ _)).mono ?_; rintro e w' ⟨rfl, rfl⟩) | (go_at_call 92; refine (isValue_any _ _).mono ?_; rintro e w' ⟨rfl, rfl⟩))
    go_ret
    exact ⟨ret_bool (unhide HC).symm, ((Below.refl _ _).alloc (Nat.le_refl _) _).alloc (by simp) _⟩
  | true =>
  cases hv : Nums.inB m.version lo hi with
  | false =>
    have HC : Hid (soundB m = false) := by show _ = _; rw [hS, hv]; simp
    clear hS
    go_enter Tryd.func63, Tryd.ntmps63
    go_wp2_with (first | (go_at_call 53; refine (within_any _ _ _ _).mono ?_; rintro e w' ⟨rfl, rfl⟩) | (go_at_call 82; refine (isKey_any _ _ hkey (unhide HKT _ _)).mono ?_; rintro e w' ⟨rfl, rfl⟩) | (go_at_call 92; refine (isValue_any _ _).mono ?_; rintro e w' ⟨rfl, rfl⟩))
    go_ret
    exact ⟨ret_bool (unhide HC).symm, ((Below.refl _ _).alloc (Nat.le_refl _) _).alloc (by simp) _⟩
  | true =>
  cases ha : Nums.inB m.age 0 ma with
  | false =>
    have HC : Hid (soundB m = false) := by show _ = _; rw [hS, ha]; simp
    clear hS
    go_enter Tryd.func63, Tryd.ntmps63
    go_wp2_with (first | (go_at_call 53; refine (within_any _ _ _ _).mono ?_; rintro e w' ⟨rfl, rfl⟩) | (go_at_call 82; refine (isKey_any _ _ hkey (unhide HKT _ _)).mono ?_; rintro e w' ⟨rfl, rfl⟩) | (go_at_call 92; refine (isValue_any _ _).mono ?_; rintro e w' ⟨rfl, rfl⟩))
    go_ret
    exact ⟨ret_bool (unhide HC).symm, ((Below.refl _ _).alloc (Nat.le_refl _) _).alloc (by simp) _⟩
  | true =>
  cases hp : Nums.inB m.present 0 mp with
  | false =>
    have HC : Hid (soundB m = false) := by show _ = _; rw [hS, hp]; simp
    clear hS
    go_enter Tryd.func63, Tryd.ntmps63
    go_wp2_with (first | (go_at_call 53; refine (within_any _ _ _ _).mono ?_; rintro e w' ⟨rfl, rfl⟩) | (go_at_call 82; refine (isKey_any _ _ hkey (unhide HKT _ _)).mono ?_; rintro e w' ⟨rfl, rfl⟩) | (go_at_call 92; refine (isValue_any _ _).mono ?_; rintro e w' ⟨rfl, rfl⟩))
    go_ret
    exact ⟨ret_bool (unhide HC).symm, ((Below.refl _ _).alloc (Nat.le_refl _) _).alloc (by simp) _⟩
  | true =>
  cases hky : keyB m.key with
  | false =>
    have HC : Hid (soundB m = false) := by show _ = _; rw [hS, hky]; simp
    clear hS
    go_enter Tryd.func63, Tryd.ntmps63
    go_wp2_with (first | (go_at_call 53; refine (within_any _ _ _ _).mono ?_; rintro e w' ⟨rfl, rfl⟩) | (go_at_call 82; refine (isKey_any _ _ hkey (unhide HKT _ _)).mono ?_; rintro e w' ⟨rfl, rfl⟩) | (go_at_call 92; refine (isValue_any _ _).mono ?_; rintro e w' ⟨rfl, rfl⟩))
    go_ret
    exact ⟨ret_bool (unhide HC).symm, ((Below.refl _ _).alloc (Nat.le_refl _) _).alloc (by simp) _⟩
  | true =>
  cases hvl : valB m.value with
  | false =>
    have HC : Hid (soundB m = false) := by show _ = _; rw [hS, hvl]; simp
    clear hS
    go_enter Tryd.func63, Tryd.ntmps63
    go_wp2_with (first | (go_at_call 53; refine (within_any _ _ _ _).mono ?_; rintro e w' ⟨rfl, rfl⟩) | (go_at_call 82; refine (isKey_any _ _ hkey (unhide HKT _ _)).mono ?_; rintro e w' ⟨rfl, rfl⟩) | (go_at_call 92; refine (isValue_any _ _).mono ?_; rintro e w' ⟨rfl, rfl⟩))
    go_ret
    exact ⟨ret_bool (unhide HC).symm, ((Below.refl _ _).alloc (Nat.le_refl _) _).alloc (by simp) _⟩
  | true =>
  have HC : Hid (soundB m = ((m.present == 1) || m.value.toList.isEmpty)) := by show _ = _; rw [hS, hf, ht, hs, hv, ha, hp, hky, hvl]; simp
  clear hS
  cases h1 : (m.present == 1) with
  | true =>
    go_enter Tryd.func63, Tryd.ntmps63
    go_wp2_with (first | (go_at_call 53; refine (within_any _ _ _ _).mono ?_; rintro e w' ⟨rfl, rfl⟩) | (go_at_call 82; refine (isKey_any _ _ hkey (unhide HKT _ _)).mono ?_; rintro e w' ⟨rfl, rfl⟩) | (go_at_call 92; refine (isValue_any _ _).mono ?_; rintro e w' ⟨rfl, rfl⟩))
    go_ret
    exact ⟨ret_bool (by rw [unhide HC, h1]; rfl), ((Below.refl _ _).alloc (Nat.le_refl _) _).alloc (by simp) _⟩
  | false =>
    go_enter Tryd.func63, Tryd.ntmps63
    go_wp2_with (first | (go_at_call 53; refine (within_any _ _ _ _).mono ?_; rintro e w' ⟨rfl, rfl⟩) | (go_at_call 82; refine (isKey_any _ _ hkey (unhide HKT _ _)).mono ?_; rintro e w' ⟨rfl, rfl⟩) | (go_at_call 92; refine (isValue_any _ _).mono ?_; rintro e w' ⟨rfl, rfl⟩))
    go_ret
    exact ⟨ret_bool (by rw [unhide HC, h1]; rfl), ((Below.refl _ _).alloc (Nat.le_refl _) _).alloc (by simp) _⟩

theorem sound_kind {m : Msg} (h : Nums.inB m.kind 1 4 = false) : soundB m = false := by simp [soundB, h]

set_option maxHeartbeats 400000 in
theorem wireRight_any (m : Msg) (w : World) (hkey : m.key.size ≤ maxLen) (hT : KindTab w) (hK : KeyTab w) :
    Calls Tryd.prog 63 #[.agg #[.int .i64 m.kind, .int .i64 m.frm, .int .i64 m.to, .string m.key, .int .i64 m.serial, .int .i64 m.version, .int .i64 m.age, .int .i64 m.present, .string m.value]] w fun e w' => e = .returned (.bool (soundB m)) ∧ Below w.heap.size w w' := by
  cases hk : Nums.inB m.kind 1 4 with
  | false =>
    have HC := hide (sound_kind hk)
    go_enter Tryd.func63, Tryd.ntmps63
    go_wp2_with (go_at_call 53; refine (within_any _ _ _ _).mono ?_; rintro e w' ⟨rfl, rfl⟩)
    go_ret
    exact ⟨ret_bool (unhide HC).symm, below_alloc1' _ _⟩
  | true =>
    have h14 := Nums.inB_iff.1 hk
    obtain ⟨k, hkk⟩ := Int.eq_ofNat_of_zero_le (show 0 ≤ m.kind by omega)
    obtain ⟨t0, t1, t2, t3⟩ := hT k (by omega) (by omega)
    exact right_kind m k _ _ _ _ w hkk (by rw [← hkk]; exact hk) hkey t0 t1 t2 t3 (by rw [soundB, hk, hkk]; simp) hK

end Go.Proofs.YtpdkojgepagbnaaDoor

namespace Go.Proofs.YtpdkojgepagbnaaDoor
open Tier (Mes Ans Conf St Kept Wtr Ftc Cac Item Was)

/-- A step of a script. -/
structure StepD where
  kind : Int
  a : Int
  b : Int
  s : ByteArray

/-- What a caller knows: the time; what the clocks read; the origin's past; who is not answered yet; whether it has tired. -/
structure Sh where
  now : Int
  clocks : List Int
  l : List Was
  opn : List Bool
  tired : Bool

/-- One of four keys. -/
def keyI : Nat → ByteArray
  | 0 => ⟨#[97]⟩
  | 1 => ⟨#[98]⟩
  | 2 => ⟨#[97, 98, 99, 100]⟩
  | _ => ⟨#[122]⟩
def keyD (raw : Int) : ByteArray := keyI (pickN raw 4).toNat
theorem keyI_ok (n : Nat) : keyB (keyI n) = true := by
  match n with
  | 0 => decide
  | 1 => decide
  | 2 => decide
  | _ + 3 => show keyB ⟨#[122]⟩ = true; decide
theorem keyD_ok (raw : Int) : keyB (keyD raw) = true := keyI_ok _

def cacheD (c : Conf) (raw : Int) : Nat := 1 + (pickN raw ((c.parents.length : Int) - 1)).toNat
theorem cacheD_ok {c : Conf} (h : 2 ≤ c.parents.length) (raw : Int) : 0 < cacheD c raw ∧ cacheD c raw < c.parents.length := by
  have := pickN_ok raw (n := (c.parents.length : Int) - 1) (by omega)
  unfold cacheD
  omega
theorem cacheD_int {c : Conf} (h : 2 ≤ c.parents.length) (raw : Int) : ((cacheD c raw : Nat) : Int) = 1 + pickN raw ((c.parents.length : Int) - 1) := by
  have := pickN_ok raw (n := (c.parents.length : Int) - 1) (by omega)
  unfold cacheD
  omega

def cutS (s : ByteArray) : ByteArray := if 16 < s.size then s.extract 0 16 else s
theorem cutS_ok (s : ByteArray) : valB (cutS s) = true := by
  have : (cutS s).size ≤ 16 := by
    unfold cutS
    split
    · rw [ByteArray.size_extract]; omega
    · omega
  unfold valB
  first
    | exact decide_eq_true (by omega)
    | (simp; omega)

/-- What the origin's key is now. -/
def lastOf (l : List Was) (k : ByteArray) : Was := (l.reverse.find? fun r => decide (r.key = k)).getD ⟨k, 0, 0, Tier.empty, 0⟩
theorem lastOf_snoc (l : List Was) (r : Was) (k : ByteArray) : lastOf (l ++ [r]) k = if r.key = k then r else lastOf l k := by
  unfold lastOf
  rw [List.reverse_append, List.reverse_singleton, List.singleton_append, List.find?_cons]
  by_cases e : r.key = k <;> simp [e]

/-- Time goes on: each clock by as little as it may, and more. -/
def leastD (drift n : Int) : Int := if n * (1000000 - drift) / 1000000 * 1000000 < n * (1000000 - drift) then n * (1000000 - drift) / 1000000 + 1 else n * (1000000 - drift) / 1000000
def moreD (b : Int) (k : Nat) : Int := pickN (b.tdiv k) 5
def passF (drift n b : Int) : Nat → Nat → List Int → St → List Int × St
  | 0, _, cl, t => (cl, t)
  | f + 1, k, cl, t =>
    if 1099511627776 < cl.getD k 0 + leastD drift n + moreD b k then (cl.set k (cl.getD k 0 + leastD drift n + moreD b k), t)
    else passF drift n b f (k + 1) (cl.set k (cl.getD k 0 + leastD drift n + moreD b k)) (t.tick k (max (t.cac k).clock (cl.getD k 0 + leastD drift n + moreD b k)))

/-- All messages come, in order, till there are none, or too many came. -/
def settleF : Nat → St → St × Bool
  | 0, t => (t, true)
  | j + 1, t => match t.net with
    | [] => (t, false)
    | m :: _ => settleF j ((t.taken 0).comes m)

/-- A step on a message. -/
def netF (o : StepD) (t : St) : St :=
  match t.net[(pickN o.a t.net.length).toNat]? with
  | none => t
  | some m => if o.kind = 4 then (t.taken (pickN o.a t.net.length).toNat).comes m else if o.kind = 5 then t.taken (pickN o.a t.net.length).toNat else if t.net.length < 64 then { t with net := t.net ++ [m] } else t

def stepF (o : StepD) (h : Sh) (t : St) : Sh × St :=
  if o.kind = 0 then ({ h with l := h.l ++ [⟨keyD o.a, (lastOf h.l (keyD o.a)).ver + 1, 1, cutS o.s, h.now⟩] }, t.changes ⟨keyD o.a, (t.item (keyD o.a)).ver + 1, 1, cutS o.s⟩)
  else if o.kind = 1 then
    if (lastOf h.l (keyD o.a)).pres = 0 then (h, t)
    else ({ h with l := h.l ++ [⟨keyD o.a, (lastOf h.l (keyD o.a)).ver + 1, 0, Tier.empty, h.now⟩] }, t.changes ⟨keyD o.a, (t.item (keyD o.a)).ver + 1, 0, Tier.empty⟩)
  else if o.kind = 2 then
    ({ h with now := h.now + pickN o.a 1000, clocks := (passF t.c.drift (pickN o.a 1000) o.b (h.clocks.length - 1) 1 h.clocks t).1 }, (passF t.c.drift (pickN o.a 1000) o.b (h.clocks.length - 1) 1 h.clocks t).2)
  else if o.kind = 3 then ({ h with opn := h.opn ++ [true] }, t.wants (cacheD t.c o.a) (keyD o.b) ⟨-1, h.opn.length, 0, 0⟩)
  else if o.kind = 4 ∨ o.kind = 5 ∨ o.kind = 6 then (h, netF o t)
  else if o.kind = 7 then (h, t.timeout (cacheD t.c o.a) (keyD o.b))
  else if o.kind = 8 then (h, t.crash (cacheD t.c o.a))
  else if o.kind = 9 then ({ h with tired := h.tired || (settleF 100000 t).2 }, (settleF 100000 t).1)
  else (h, t)

/-- Is there no time left, or did it tire? -/
def overB (h : Sh) : Bool := h.tired || (h.clocks.drop 1).any fun c => decide (1099511627776 < c)

/-- Which key an id asked for, by the steps. -/
def askedF : List StepD → Int → Int → ByteArray
  | [], _, _ => Tier.empty
  | o :: r, n, id => if o.kind = 3 then if n = id then keyD o.b else askedF r (n + 1) id else askedF r n id

/-- Who is answered is not open any more. -/
def shut (l : List Bool) (a : List Ans) : List Bool := a.foldl (fun l a => l.set a.id.toNat false) l
theorem shut_snoc (l : List Bool) (a : List Ans) (i : Nat) (x : Ans) (h : a[i]? = some x) : shut l (a.take (i + 1)) = (shut l (a.take i)).set x.id.toNat false := by
  rw [List.take_add_one, h]
  simp [shut]
theorem shut_length (l : List Bool) : ∀ (a : List Ans), (shut l a).length = l.length := by
  intro a
  induction a generalizing l with
  | nil => rfl
  | cons x r ih => show (shut (l.set x.id.toNat false) r).length = _; rw [ih]; simp

/-- An answer that may be. -/
def AnsOK (script : List StepD) (budget from_ : Int) (h : Sh) (a : Ans) : Prop :=
  (a.kind = 2 ∧ a.ver = 0 ∧ a.pres = 0 ∧ a.val = Tier.empty ∧ a.age = 0) ∨ (a.kind = 1 ∧ Tier.heldB h.l (askedF script 0 a.id) a.ver a.pres a.val h.now from_ = true ∧ 0 ≤ a.age ∧ a.age ≤ budget)
/-- All answers are those that may be: each is open, once. -/
structure AnsAll (script : List StepD) (budget from_ : Int) (h : Sh) (l : List Ans) : Prop where
  open_ : ∀ i a, l[i]? = some a → 0 ≤ a.id ∧ a.id < (h.opn.length : Int) ∧ (shut h.opn (l.take i))[a.id.toNat]? = some true
  ok : ∀ a ∈ l, AnsOK script budget from_ h a

end Go.Proofs.YtpdkojgepagbnaaDoor
