/-
  Which messages are right: the program by its table, the document by its cases; the same answer.
-/
import Derived.Test.YtpdkojgepagbnaaDoorWW1
namespace Go.Proofs.YtpdkojgepagbnaaDoor
open Go.RowKit

/-- A message. -/
structure Msg where
  kind : Int
  frm : Int
  to : Int
  key : ByteArray
  serial : Int
  version : Int
  age : Int
  present : Int
  value : ByteArray

def Msg.cells (m : Msg) : Array Value := #[.int .i64 m.kind, .int .i64 m.frm, .int .i64 m.to, .string m.key, .int .i64 m.serial, .int .i64 m.version, .int .i64 m.age, .int .i64 m.present, .string m.value]

def loV (k : Int) : Int := if k = 1 then -1 else 0
def hiV (k : Int) : Int := if k = 4 then 0 else 2147483647
def hiA (k : Int) : Int := if k = 2 ∨ k = 3 then 281474976710655 else 0
def hiP (k : Int) : Int := if k = 2 then 1 else 0

/-- Is a message right? -/
def soundB (m : Msg) : Bool :=
  Nums.inB m.kind 1 4 && Nums.inB m.frm 0 255 && Nums.inB m.to 0 255 && Nums.inB m.serial 0 4294967295 && Nums.inB m.version (loV m.kind) (hiV m.kind) && Nums.inB m.age 0 (hiA m.kind) && Nums.inB m.present 0 (hiP m.kind) &&
    keyB m.key && valB m.value && ((m.present == 1) || m.value.toList.isEmpty)

/-- What the table of kinds holds. -/
def KindTab (w : World) : Prop := ∀ k : Nat, 1 ≤ k → k ≤ 4 → w.cell? ⟨0, k * 4, none⟩ = some (.int .i64 (loV k)) ∧ w.cell? ⟨0, k * 4 + 1, none⟩ = some (.int .i64 (hiV k)) ∧
  w.cell? ⟨0, k * 4 + 2, none⟩ = some (.int .i64 (hiA k)) ∧ w.cell? ⟨0, k * 4 + 3, none⟩ = some (.int .i64 (hiP k))

theorem KindTab.later {w w' : World} (h : KindTab w) (hb : Below w.heap.size w w') : KindTab w' := fun k h1 h2 => by
  obtain ⟨a, b, c, d⟩ := h k h1 h2
  exact ⟨cell_later hb a, cell_later hb b, cell_later hb c, cell_later hb d⟩
theorem KeyTab.later {w w' : World} (h : KeyTab w) (hb : Below w.heap.size w w') : KeyTab w' := by
  obtain ⟨a, b, c, d⟩ := h
  exact ⟨cell_later hb a, cell_later hb b, cell_later hb c, cell_later hb d⟩
theorem below_alloc1' (w : World) (o : Obj) : Below w.heap.size w (w.alloc o) := (Below.refl _ _).alloc (Nat.le_refl _) _

set_option maxHeartbeats 2000000 in
theorem right_kind (m : Msg) (k : Nat) (lo hi ma mp : Int) (w : World) (hkk : m.kind = k) (hk : Nums.inB k 1 4 = true) (hkey : m.key.size ≤ maxLen)
    (t0 : w.cell? ⟨0, k * 4, none⟩ = some (.int .i64 lo)) (t1 : w.cell? ⟨0, k * 4 + 1, none⟩ = some (.int .i64 hi)) (t2 : w.cell? ⟨0, k * 4 + 2, none⟩ = some (.int .i64 ma)) (t3 : w.cell? ⟨0, k * 4 + 3, none⟩ = some (.int .i64 mp))
    (hS : soundB m = (Nums.inB m.frm 0 255 && Nums.inB m.to 0 255 && Nums.inB m.serial 0 4294967295 && Nums.inB m.version lo hi && Nums.inB m.age 0 ma && Nums.inB m.present 0 mp && keyB m.key && valB m.value && ((m.present == 1) || m.value.toList.isEmpty))) (hK : KeyTab w) :
    Calls Tryd.prog 63 #[.agg #[.int .i64 m.kind, .int .i64 m.frm, .int .i64 m.to, .string m.key, .int .i64 m.serial, .int .i64 m.version, .int .i64 m.age, .int .i64 m.present, .string m.value]] w fun e w' => e = .returned (.bool (soundB m)) ∧ Below w.heap.size w w' := by
  have h14 := Nums.inB_iff.1 hk
  have HKT : Hid (∀ o1 o2, KeyTab ((w.alloc o1).alloc o2)) := fun o1 o2 => (hK.later (below_alloc1' w o1)).later (below_alloc1' _ o2)
  have u0 := fun o => cell_later (below_alloc1' w o) t0
  have u1 := fun o => cell_later (below_alloc1' w o) t1
  have u2 := fun o => cell_later (below_alloc1' w o) t2
  have u3 := fun o => cell_later (below_alloc1' w o) t3
  clear t0 t1 t2 t3
  cases hf : Nums.inB m.frm 0 255 with
  | false =>
    have HC : Hid (soundB m = false) := by show _ = _; rw [hS, hf]; simp
    clear hS
    go_enter Tryd.func63, Tryd.ntmps63
    go_wp2_with (first | (go_at_call 53; refine (within_any _ _ _ _).mono ?_; rintro e w' ⟨rfl, rfl⟩) | (go_at_call 82; refine (isKey_any _ _ hkey (unhide HKT _ _)).mono ?_; rintro e w' ⟨rfl, rfl⟩) | (go_at_call 92; refine (isValue_any _ _).mono ?_; rintro e w' ⟨rfl, rfl⟩))
    go_ret
    exact ⟨ret_bool (unhide HC).symm, ((Below.refl _ _).alloc (Nat.le_refl _) _).alloc (by simp) _⟩
  | true =>
  cases ht : Nums.inB m.to 0 255 with
  | false =>
    have HC : Hid (soundB m = false) := by show _ = _; rw [hS, ht]; simp
    clear hS
    go_enter Tryd.func63, Tryd.ntmps63
    go_wp2_with (first | (go_at_call 53; refine (within_any _ _ _ _).mono ?_; rintro e w' ⟨rfl, rfl⟩) | (go_at_call 82; refine (isKey_any _ _ hkey (unhide HKT _ _)).mono ?_; rintro e w' ⟨rfl, rfl⟩) | (go_at_call 92; refine (isValue_any _ _).mono ?_; rintro e w' ⟨rfl, rfl⟩))
    go_ret
    exact ⟨ret_bool (unhide HC).symm, ((Below.refl _ _).alloc (Nat.le_refl _) _).alloc (by simp) _⟩
  | true =>
  cases hs : Nums.inB m.serial 0 4294967295 with
  | false =>
    have HC : Hid (soundB m = false) := by show _ = _; rw [hS, hs]; simp
    clear hS
    go_enter Tryd.func63, Tryd.ntmps63
    go_wp2_with (first | (go_at_call 53; refine (within_any _ _ _ _).mono ?_; rintro e w' ⟨rfl, rfl⟩) | (go_at_call 82; refine (isKey_any _ _ hkey (unhide HKT _ _)).mono ?_; rintro e w' ⟨rfl, rfl⟩) | (go_at_call 92; refine (isValue_any _ _).mono ?_; rintro e w' ⟨rfl, rfl⟩))
    go_ret
    exact ⟨ret_bool (unhide HC).symm, ((Below.refl _ _).alloc (Nat.le_refl _) _).alloc (by simp) _⟩
  | true =>
  cases hv : Nums.inB m.version lo hi with
  | false =>
    have HC : Hid (soundB m = false) := by show _ = _; rw [hS, hv]; simp
    clear hS
    go_enter Tryd.func63, Tryd.ntmps63
    go_wp2_with (first | (go_at_call 53; refine (within_any _ _ _ _).mono ?_; rintro e w' ⟨rfl, rfl⟩) | (go_at_call 82; refine (isKey_any _ _ hkey (unhide HKT _ _)).mono ?_; rintro e w' ⟨rfl, rfl⟩) | (go_at_call 92; refine (isValue_any _ _).mono ?_; rintro e w' ⟨rfl, rfl⟩))
    go_ret
    exact ⟨ret_bool (unhide HC).symm, ((Below.refl _ _).alloc (Nat.le_refl _) _).alloc (by simp) _⟩
  | true =>
  cases ha : Nums.inB m.age 0 ma with
  | false =>
    have HC : Hid (soundB m = false) := by show _ = _; rw [hS, ha]; simp
    clear hS
    go_enter Tryd.func63, Tryd.ntmps63
    go_wp2_with (first | (go_at_call 53; refine (within_any _ _ _ _).mono ?_; rintro e w' ⟨rfl, rfl⟩) | (go_at_call 82; refine (isKey_any _ _ hkey (unhide HKT _ _)).mono ?_; rintro e w' ⟨rfl, rfl⟩) | (go_at_call 92; refine (isValue_any _ _).mono ?_; rintro e w' ⟨rfl, rfl⟩))
    go_ret
    exact ⟨ret_bool (unhide HC).symm, ((Below.refl _ _).alloc (Nat.le_refl _) _).alloc (by simp) _⟩
  | true =>
  cases hp : Nums.inB m.present 0 mp with
  | false =>
    have HC : Hid (soundB m = false) := by show _ = _; rw [hS, hp]; simp
    clear hS
    go_enter Tryd.func63, Tryd.ntmps63
    go_wp2_with (first | (go_at_call 53; refine (within_any _ _ _ _).mono ?_; rintro e w' ⟨rfl, rfl⟩) | (go_at_call 82; refine (isKey_any _ _ hkey (unhide HKT _ _)).mono ?_; rintro e w' ⟨rfl, rfl⟩) | (go_at_call 92; refine (isValue_any _ _).mono ?_; rintro e w' ⟨rfl, rfl⟩))
    go_ret
    exact ⟨ret_bool (unhide HC).symm, ((Below.refl _ _).alloc (Nat.le_refl _) _).alloc (by simp) _⟩
  | true =>
  cases hky : keyB m.key with
  | false =>
    have HC : Hid (soundB m = false) := by show _ = _; rw [hS, hky]; simp
    clear hS
    go_enter Tryd.func63, Tryd.ntmps63
    go_wp2_with (first | (go_at_call 53; refine (within_any _ _ _ _).mono ?_; rintro e w' ⟨rfl, rfl⟩) | (go_at_call 82; refine (isKey_any _ _ hkey (unhide HKT _ _)).mono ?_; rintro e w' ⟨rfl, rfl⟩) | (go_at_call 92; refine (isValue_any _ _).mono ?_; rintro e w' ⟨rfl, rfl⟩))
    go_ret
    exact ⟨ret_bool (unhide HC).symm, ((Below.refl _ _).alloc (Nat.le_refl _) _).alloc (by simp) _⟩
  | true =>
  cases hvl : valB m.value with
  | false =>
    have HC : Hid (soundB m = false) := by show _ = _; rw [hS, hvl]; simp
    clear hS
    go_enter Tryd.func63, Tryd.ntmps63
    go_wp2_with (first | (go_at_call 53; refine (within_any _ _ _ _).mono ?_; rintro e w' ⟨rfl, rfl⟩) | (go_at_call 82; refine (isKey_any _ _ hkey (unhide HKT _ _)).mono ?_; rintro e w' ⟨rfl, rfl⟩) | (go_at_call 92; refine (isValue_any _ _).mono ?_; rintro e w' ⟨rfl, rfl⟩))
    go_ret
    exact ⟨ret_bool (unhide HC).symm, ((Below.refl _ _).alloc (Nat.le_refl _) _).alloc (by simp) _⟩
  | true =>
  have HC : Hid (soundB m = ((m.present == 1) || m.value.toList.isEmpty)) := by show _ = _; rw [hS, hf, ht, hs, hv, ha, hp, hky, hvl]; simp
  clear hS
  cases h1 : (m.present == 1) with
  | true =>
    go_enter Tryd.func63, Tryd.ntmps63
    go_wp2_with (first | (go_at_call 53; refine (within_any _ _ _ _).mono ?_; rintro e w' ⟨rfl, rfl⟩) | (go_at_call 82; refine (isKey_any _ _ hkey (unhide HKT _ _)).mono ?_; rintro e w' ⟨rfl, rfl⟩) | (go_at_call 92; refine (isValue_any _ _).mono ?_; rintro e w' ⟨rfl, rfl⟩))
    go_ret
    exact ⟨ret_bool (by rw [unhide HC, h1]; rfl), ((Below.refl _ _).alloc (Nat.le_refl _) _).alloc (by simp) _⟩
  | false =>
    go_enter Tryd.func63, Tryd.ntmps63
    go_wp2_with (first | (go_at_call 53; refine (within_any _ _ _ _).mono ?_; rintro e w' ⟨rfl, rfl⟩) | (go_at_call 82; refine (isKey_any _ _ hkey (unhide HKT _ _)).mono ?_; rintro e w' ⟨rfl, rfl⟩) | (go_at_call 92; refine (isValue_any _ _).mono ?_; rintro e w' ⟨rfl, rfl⟩))
    go_ret
    exact ⟨ret_bool (by rw [unhide HC, h1]; rfl), ((Below.refl _ _).alloc (Nat.le_refl _) _).alloc (by simp) _⟩

theorem sound_kind {m : Msg} (h : Nums.inB m.kind 1 4 = false) : soundB m = false := by simp [soundB, h]

set_option maxHeartbeats 400000 in
theorem wireRight_any (m : Msg) (w : World) (hkey : m.key.size ≤ maxLen) (hT : KindTab w) (hK : KeyTab w) :
    Calls Tryd.prog 63 #[.agg #[.int .i64 m.kind, .int .i64 m.frm, .int .i64 m.to, .string m.key, .int .i64 m.serial, .int .i64 m.version, .int .i64 m.age, .int .i64 m.present, .string m.value]] w fun e w' => e = .returned (.bool (soundB m)) ∧ Below w.heap.size w w' := by
  cases hk : Nums.inB m.kind 1 4 with
  | false =>
    have HC := hide (sound_kind hk)
    go_enter Tryd.func63, Tryd.ntmps63
    go_wp2_with (go_at_call 53; refine (within_any _ _ _ _).mono ?_; rintro e w' ⟨rfl, rfl⟩)
    go_ret
    exact ⟨ret_bool (unhide HC).symm, below_alloc1' _ _⟩
  | true =>
    have h14 := Nums.inB_iff.1 hk
    obtain ⟨k, hkk⟩ := Int.eq_ofNat_of_zero_le (show 0 ≤ m.kind by omega)
    obtain ⟨t0, t1, t2, t3⟩ := hT k (by omega) (by omega)
    exact right_kind m k _ _ _ _ w hkk (by rw [← hkk]; exact hk) hkey t0 t1 t2 t3 (by rw [soundB, hk, hkk]; simp) hK

end Go.Proofs.YtpdkojgepagbnaaDoor
