/-
  Which messages are right, by the document's cases.
-/
import Derived.Test.YtpdkojgepagbnaaDoorWW2
namespace Go.Proofs.YtpdkojgepagbnaaDoor
open Go.RowKit

/-- The document's cases. -/
def caseB (m : Msg) : Bool :=
  if m.kind = 1 then (m.age == 0) && (m.present == 0) else if m.kind = 2 then decide (0 ≤ m.version) else if m.kind = 3 then decide (0 ≤ m.version) && (m.present == 0) else (m.version == 0) && (m.age == 0) && (m.present == 0)
def refB (m : Msg) : Bool :=
  Nums.inB m.kind 1 4 && Nums.inB m.frm 0 255 && Nums.inB m.to 0 255 && Nums.inB m.serial 0 4294967295 && Nums.inB m.version (-1) 2147483647 && Nums.inB m.age 0 281474976710655 && Nums.inB m.present 0 1 && keyB m.key &&
    !decide (16 < (m.value.size : Int)) && !((m.present == 0) && !m.value.toList.isEmpty) && caseB m

theorem refB_of {m : Msg} (ha : Nums.inB m.kind 1 4 = true) (hb : Nums.inB m.frm 0 255 = true) (hc : Nums.inB m.to 0 255 = true) (hd : Nums.inB m.serial 0 4294967295 = true) (he : Nums.inB m.version (-1) 2147483647 = true)
    (hf : Nums.inB m.age 0 281474976710655 = true) (hg : Nums.inB m.present 0 1 = true) (hk : keyB m.key = true) : refB m = (!decide (16 < (m.value.size : Int)) && !((m.present == 0) && !m.value.toList.isEmpty) && caseB m) := by
  rw [refB, ha, hb, hc, hd, he, hf, hg, hk]; simp

set_option maxHeartbeats 2000000 in
theorem sound_any (m : Msg) (w : World) (hkey : m.key.size ≤ maxLen) :
    Calls Tryd.prog 60 #[.agg #[.int .i64 m.kind, .int .i64 m.frm, .int .i64 m.to, .string m.key, .int .i64 m.serial, .int .i64 m.version, .int .i64 m.age, .int .i64 m.present, .string m.value]] w fun e w' => e = .returned (.bool (refB m)) ∧ Below w.heap.size w w' := by
  cases ha : Nums.inB m.kind 1 4 with
  | false =>
    have HC : Hid (refB m = false) := by show _ = _; rw [refB, ha]; simp
    go_enter Tryd.func60, Tryd.ntmps60
    go_wp2_with (first | (go_at_call 58; refine (in_any _ _ _ _).mono ?_; rintro e w' ⟨rfl, rfl⟩) | (go_at_call 91; refine (key_any _ _ hkey).mono ?_; rintro e w' ⟨rfl, rfl⟩))
    go_ret
    exact ⟨ret_bool (unhide HC).symm, below_alloc1' _ _⟩
  | true =>
  cases hb : Nums.inB m.frm 0 255 with
  | false =>
    have HC : Hid (refB m = false) := by show _ = _; rw [refB, hb]; simp
    go_enter Tryd.func60, Tryd.ntmps60
    go_wp2_with (first | (go_at_call 58; refine (in_any _ _ _ _).mono ?_; rintro e w' ⟨rfl, rfl⟩) | (go_at_call 91; refine (key_any _ _ hkey).mono ?_; rintro e w' ⟨rfl, rfl⟩))
    go_ret
    exact ⟨ret_bool (unhide HC).symm, below_alloc1' _ _⟩
  | true =>
  cases hc : Nums.inB m.to 0 255 with
  | false =>
    have HC : Hid (refB m = false) := by show _ = _; rw [refB, hc]; simp
    go_enter Tryd.func60, Tryd.ntmps60
    go_wp2_with (first | (go_at_call 58; refine (in_any _ _ _ _).mono ?_; rintro e w' ⟨rfl, rfl⟩) | (go_at_call 91; refine (key_any _ _ hkey).mono ?_; rintro e w' ⟨rfl, rfl⟩))
    go_ret
    exact ⟨ret_bool (unhide HC).symm, below_alloc1' _ _⟩
  | true =>
  cases hd : Nums.inB m.serial 0 4294967295 with
  | false =>
    have HC : Hid (refB m = false) := by show _ = _; rw [refB, hd]; simp
    go_enter Tryd.func60, Tryd.ntmps60
    go_wp2_with (first | (go_at_call 58; refine (in_any _ _ _ _).mono ?_; rintro e w' ⟨rfl, rfl⟩) | (go_at_call 91; refine (key_any _ _ hkey).mono ?_; rintro e w' ⟨rfl, rfl⟩))
    go_ret
    exact ⟨ret_bool (unhide HC).symm, below_alloc1' _ _⟩
  | true =>
  cases he : Nums.inB m.version (-1) 2147483647 with
  | false =>
    have HC : Hid (refB m = false) := by show _ = _; rw [refB, he]; simp
    go_enter Tryd.func60, Tryd.ntmps60
    go_wp2_with (first | (go_at_call 58; refine (in_any _ _ _ _).mono ?_; rintro e w' ⟨rfl, rfl⟩) | (go_at_call 91; refine (key_any _ _ hkey).mono ?_; rintro e w' ⟨rfl, rfl⟩))
    go_ret
    exact ⟨ret_bool (unhide HC).symm, below_alloc1' _ _⟩
  | true =>
  cases hf : Nums.inB m.age 0 281474976710655 with
  | false =>
    have HC : Hid (refB m = false) := by show _ = _; rw [refB, hf]; simp
    go_enter Tryd.func60, Tryd.ntmps60
    go_wp2_with (first | (go_at_call 58; refine (in_any _ _ _ _).mono ?_; rintro e w' ⟨rfl, rfl⟩) | (go_at_call 91; refine (key_any _ _ hkey).mono ?_; rintro e w' ⟨rfl, rfl⟩))
    go_ret
    exact ⟨ret_bool (unhide HC).symm, below_alloc1' _ _⟩
  | true =>
  cases hg : Nums.inB m.present 0 1 with
  | false =>
    have HC : Hid (refB m = false) := by show _ = _; rw [refB, hg]; simp
    go_enter Tryd.func60, Tryd.ntmps60
    go_wp2_with (first | (go_at_call 58; refine (in_any _ _ _ _).mono ?_; rintro e w' ⟨rfl, rfl⟩) | (go_at_call 91; refine (key_any _ _ hkey).mono ?_; rintro e w' ⟨rfl, rfl⟩))
    go_ret
    exact ⟨ret_bool (unhide HC).symm, below_alloc1' _ _⟩
  | true =>
  cases hk : keyB m.key with
  | false =>
    have HC : Hid (refB m = false) := by show _ = _; rw [refB, hk]; simp
    go_enter Tryd.func60, Tryd.ntmps60
    go_wp2_with (first | (go_at_call 58; refine (in_any _ _ _ _).mono ?_; rintro e w' ⟨rfl, rfl⟩) | (go_at_call 91; refine (key_any _ _ hkey).mono ?_; rintro e w' ⟨rfl, rfl⟩))
    go_ret
    exact ⟨ret_bool (unhide HC).symm, below_alloc1' _ _⟩
  | true =>
  have hR := refB_of ha hb hc hd he hf hg hk
  by_cases hl : 16 < (m.value.size : Int)
  · have HC : Hid (refB m = false) := by show _ = _; rw [hR]; simp [hl]
    clear hR
    go_enter Tryd.func60, Tryd.ntmps60
    go_wp2_with (first | (go_at_call 58; refine (in_any _ _ _ _).mono ?_; rintro e w' ⟨rfl, rfl⟩) | (go_at_call 91; refine (key_any _ _ hkey).mono ?_; rintro e w' ⟨rfl, rfl⟩))
    go_ret
    exact ⟨ret_bool (unhide HC).symm, below_alloc1' _ _⟩
  · have hl' : decide (16 < (m.value.size : Int)) = false := by simpa using hl
    rw [hl'] at hR
    cases hp : (m.present == 0) with
    | true =>
      cases hv : m.value.toList.isEmpty with
      | false =>
        have HC : Hid (refB m = false) := by show _ = _; rw [hR, hp, hv]; simp
        clear hR
        go_enter Tryd.func60, Tryd.ntmps60
        go_wp2_with (first | (go_at_call 58; refine (in_any _ _ _ _).mono ?_; rintro e w' ⟨rfl, rfl⟩) | (go_at_call 91; refine (key_any _ _ hkey).mono ?_; rintro e w' ⟨rfl, rfl⟩))
        go_ret
        exact ⟨ret_bool (unhide HC).symm, below_alloc1' _ _⟩
      | true =>
        have HC : Hid (refB m = caseB m) := by show _ = _; rw [hR, hp, hv]; simp
        clear hR
        by_cases k1 : m.kind = 1
        · have HD : Hid (caseB m = ((m.age == 0) && (m.present == 0))) := by show _ = _; simp [caseB, k1]
          cases hag : (m.age == 0)
          ·
            go_enter Tryd.func60, Tryd.ntmps60
            go_wp2_with (first | (go_at_call 58; refine (in_any _ _ _ _).mono ?_; rintro e w' ⟨rfl, rfl⟩) | (go_at_call 91; refine (key_any _ _ hkey).mono ?_; rintro e w' ⟨rfl, rfl⟩))
            go_ret
            exact ⟨ret_bool (by rw [unhide HC, unhide HD, hag, hp]; rfl), below_alloc1' _ _⟩
          ·
            go_enter Tryd.func60, Tryd.ntmps60
            go_wp2_with (first | (go_at_call 58; refine (in_any _ _ _ _).mono ?_; rintro e w' ⟨rfl, rfl⟩) | (go_at_call 91; refine (key_any _ _ hkey).mono ?_; rintro e w' ⟨rfl, rfl⟩))
            go_ret
            exact ⟨ret_bool (by rw [unhide HC, unhide HD, hag, hp]; rfl), below_alloc1' _ _⟩
        · by_cases k2 : m.kind = 2
          · have HD : Hid (caseB m = decide (0 ≤ m.version)) := by show _ = _; simp [caseB, k2]
            go_enter Tryd.func60, Tryd.ntmps60
            go_wp2_with (first | (go_at_call 58; refine (in_any _ _ _ _).mono ?_; rintro e w' ⟨rfl, rfl⟩) | (go_at_call 91; refine (key_any _ _ hkey).mono ?_; rintro e w' ⟨rfl, rfl⟩))
            go_ret
            exact ⟨ret_bool (by rw [unhide HC, unhide HD]), below_alloc1' _ _⟩
          · by_cases k3 : m.kind = 3
            · have HD : Hid (caseB m = (decide (0 ≤ m.version) && (m.present == 0))) := by show _ = _; simp [caseB, k3]
              cases hve : decide (0 ≤ m.version)
              · have hve' : ¬ 0 ≤ m.version := of_decide_eq_false hve
                go_enter Tryd.func60, Tryd.ntmps60
                go_wp2_with (first | (go_at_call 58; refine (in_any _ _ _ _).mono ?_; rintro e w' ⟨rfl, rfl⟩) | (go_at_call 91; refine (key_any _ _ hkey).mono ?_; rintro e w' ⟨rfl, rfl⟩))
                go_ret
                exact ⟨ret_bool (by rw [unhide HC, unhide HD, hve, hp]; rfl), below_alloc1' _ _⟩
              · have hve' : 0 ≤ m.version := of_decide_eq_true hve
                go_enter Tryd.func60, Tryd.ntmps60
                go_wp2_with (first | (go_at_call 58; refine (in_any _ _ _ _).mono ?_; rintro e w' ⟨rfl, rfl⟩) | (go_at_call 91; refine (key_any _ _ hkey).mono ?_; rintro e w' ⟨rfl, rfl⟩))
                go_ret
                exact ⟨ret_bool (by rw [unhide HC, unhide HD, hve, hp]; rfl), below_alloc1' _ _⟩
            · have k4 : m.kind = 4 := by have := Nums.inB_iff.1 ha; omega
              have HD : Hid (caseB m = ((m.version == 0) && (m.age == 0) && (m.present == 0))) := by show _ = _; simp [caseB, k4]
              cases hve : (m.version == 0)
              ·
                go_enter Tryd.func60, Tryd.ntmps60
                go_wp2_with (first | (go_at_call 58; refine (in_any _ _ _ _).mono ?_; rintro e w' ⟨rfl, rfl⟩) | (go_at_call 91; refine (key_any _ _ hkey).mono ?_; rintro e w' ⟨rfl, rfl⟩))
                go_ret
                exact ⟨ret_bool (by rw [unhide HC, unhide HD, hve]; rfl), below_alloc1' _ _⟩
              · cases hag : (m.age == 0)
                ·
                  go_enter Tryd.func60, Tryd.ntmps60
                  go_wp2_with (first | (go_at_call 58; refine (in_any _ _ _ _).mono ?_; rintro e w' ⟨rfl, rfl⟩) | (go_at_call 91; refine (key_any _ _ hkey).mono ?_; rintro e w' ⟨rfl, rfl⟩))
                  go_ret
                  exact ⟨ret_bool (by rw [unhide HC, unhide HD, hve, hag, hp]; rfl), below_alloc1' _ _⟩
                ·
                  go_enter Tryd.func60, Tryd.ntmps60
                  go_wp2_with (first | (go_at_call 58; refine (in_any _ _ _ _).mono ?_; rintro e w' ⟨rfl, rfl⟩) | (go_at_call 91; refine (key_any _ _ hkey).mono ?_; rintro e w' ⟨rfl, rfl⟩))
                  go_ret
                  exact ⟨ret_bool (by rw [unhide HC, unhide HD, hve, hag, hp]; rfl), below_alloc1' _ _⟩
    | false =>
      have HC : Hid (refB m = caseB m) := by show _ = _; rw [hR, hp]; simp
      clear hR
      by_cases k1 : m.kind = 1
      · have HD : Hid (caseB m = ((m.age == 0) && (m.present == 0))) := by show _ = _; simp [caseB, k1]
        cases hag : (m.age == 0)
        ·
          go_enter Tryd.func60, Tryd.ntmps60
          go_wp2_with (first | (go_at_call 58; refine (in_any _ _ _ _).mono ?_; rintro e w' ⟨rfl, rfl⟩) | (go_at_call 91; refine (key_any _ _ hkey).mono ?_; rintro e w' ⟨rfl, rfl⟩))
          go_ret
          exact ⟨ret_bool (by rw [unhide HC, unhide HD, hag, hp]; rfl), below_alloc1' _ _⟩
        ·
          go_enter Tryd.func60, Tryd.ntmps60
          go_wp2_with (first | (go_at_call 58; refine (in_any _ _ _ _).mono ?_; rintro e w' ⟨rfl, rfl⟩) | (go_at_call 91; refine (key_any _ _ hkey).mono ?_; rintro e w' ⟨rfl, rfl⟩))
          go_ret
          exact ⟨ret_bool (by rw [unhide HC, unhide HD, hag, hp]; rfl), below_alloc1' _ _⟩
      · by_cases k2 : m.kind = 2
        · have HD : Hid (caseB m = decide (0 ≤ m.version)) := by show _ = _; simp [caseB, k2]
          go_enter Tryd.func60, Tryd.ntmps60
          go_wp2_with (first | (go_at_call 58; refine (in_any _ _ _ _).mono ?_; rintro e w' ⟨rfl, rfl⟩) | (go_at_call 91; refine (key_any _ _ hkey).mono ?_; rintro e w' ⟨rfl, rfl⟩))
          go_ret
          exact ⟨ret_bool (by rw [unhide HC, unhide HD]), below_alloc1' _ _⟩
        · by_cases k3 : m.kind = 3
          · have HD : Hid (caseB m = (decide (0 ≤ m.version) && (m.present == 0))) := by show _ = _; simp [caseB, k3]
            cases hve : decide (0 ≤ m.version)
            · have hve' : ¬ 0 ≤ m.version := of_decide_eq_false hve
              go_enter Tryd.func60, Tryd.ntmps60
              go_wp2_with (first | (go_at_call 58; refine (in_any _ _ _ _).mono ?_; rintro e w' ⟨rfl, rfl⟩) | (go_at_call 91; refine (key_any _ _ hkey).mono ?_; rintro e w' ⟨rfl, rfl⟩))
              go_ret
              exact ⟨ret_bool (by rw [unhide HC, unhide HD, hve, hp]; rfl), below_alloc1' _ _⟩
            · have hve' : 0 ≤ m.version := of_decide_eq_true hve
              go_enter Tryd.func60, Tryd.ntmps60
              go_wp2_with (first | (go_at_call 58; refine (in_any _ _ _ _).mono ?_; rintro e w' ⟨rfl, rfl⟩) | (go_at_call 91; refine (key_any _ _ hkey).mono ?_; rintro e w' ⟨rfl, rfl⟩))
              go_ret
              exact ⟨ret_bool (by rw [unhide HC, unhide HD, hve, hp]; rfl), below_alloc1' _ _⟩
          · have k4 : m.kind = 4 := by have := Nums.inB_iff.1 ha; omega
            have HD : Hid (caseB m = ((m.version == 0) && (m.age == 0) && (m.present == 0))) := by show _ = _; simp [caseB, k4]
            cases hve : (m.version == 0)
            ·
              go_enter Tryd.func60, Tryd.ntmps60
              go_wp2_with (first | (go_at_call 58; refine (in_any _ _ _ _).mono ?_; rintro e w' ⟨rfl, rfl⟩) | (go_at_call 91; refine (key_any _ _ hkey).mono ?_; rintro e w' ⟨rfl, rfl⟩))
              go_ret
              exact ⟨ret_bool (by rw [unhide HC, unhide HD, hve]; rfl), below_alloc1' _ _⟩
            · cases hag : (m.age == 0)
              ·
                go_enter Tryd.func60, Tryd.ntmps60
                go_wp2_with (first | (go_at_call 58; refine (in_any _ _ _ _).mono ?_; rintro e w' ⟨rfl, rfl⟩) | (go_at_call 91; refine (key_any _ _ hkey).mono ?_; rintro e w' ⟨rfl, rfl⟩))
                go_ret
                exact ⟨ret_bool (by rw [unhide HC, unhide HD, hve, hag, hp]; rfl), below_alloc1' _ _⟩
              ·
                go_enter Tryd.func60, Tryd.ntmps60
                go_wp2_with (first | (go_at_call 58; refine (in_any _ _ _ _).mono ?_; rintro e w' ⟨rfl, rfl⟩) | (go_at_call 91; refine (key_any _ _ hkey).mono ?_; rintro e w' ⟨rfl, rfl⟩))
                go_ret
                exact ⟨ret_bool (by rw [unhide HC, unhide HD, hve, hag, hp]; rfl), below_alloc1' _ _⟩

theorem val_eq (m : Msg) : (!decide (16 < (m.value.size : Int))) = valB m.value := by
  unfold valB
  by_cases h : 16 < (m.value.size : Int)
  · rw [decide_eq_true h, decide_eq_false (by omega)]; rfl
  · rw [decide_eq_false h, decide_eq_true (by omega)]; rfl

theorem bool_ext {a b : Bool} (h : a = true ↔ b = true) : a = b := Bool.eq_iff_iff.2 h

/-- The two ways to say which messages are right agree. -/
theorem sound_ref (m : Msg) : refB m = soundB m := by
  unfold refB soundB
  rw [val_eq]
  cases hk : keyB m.key
  · simp
  cases hv : valB m.value
  · simp
  cases hem : m.value.toList.isEmpty
  all_goals
    apply bool_ext
    simp only [caseB, loV, hiV, hiA, hiP, Bool.and_eq_true, Nums.inB_iff, Bool.and_true, Bool.not_eq_true', Bool.not_true, Bool.not_false, Bool.and_false, Bool.or_false, Bool.or_true, beq_iff_eq]
    by_cases k1 : m.kind = 1
    · simp [k1]; omega
    by_cases k2 : m.kind = 2
    · simp [k2]; omega
    by_cases k3 : m.kind = 3
    · simp [k3]; omega
    by_cases k4 : m.kind = 4
    · simp [k4]; omega
    simp [k1, k2, k3, k4]; omega

end Go.Proofs.YtpdkojgepagbnaaDoor
