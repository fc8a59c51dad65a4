/-
  What the small functions on the road of Rights answer: within bounds; from parent to parent; a whole list of parents.
-/
import Derived.Test.YtpdkojgepagbnaaDoorRows
import Derived.Test.YtpdkojgepagbnaaDoorNums
import Derived.WalkKit
import Derived.WalkSpells
import Derived.WalkLawsBesides
import Derived.Deep.QuietTactic
import Derived.BigQuiet
namespace Go.Proofs.YtpdkojgepagbnaaDoor
open Go.RowKit

theorem hide {p : Prop} (h : p) : Hid p := h
theorem unhide {p : Prop} (h : Hid p) : p := h
theorem ret_bool {a b : Bool} (h : a = b) : Ending.returned (.bool a) = .returned (.bool b) := by rw [h]

set_option maxHeartbeats 400000 in
theorem within_any (n lo hi : Int) (w : World) :
    Calls Tryd.prog 53 #[.int .i64 n, .int .i64 lo, .int .i64 hi] w fun e w' => e = .returned (.bool (Nums.inB n lo hi)) ∧ w' = w := by
  by_cases h1 : lo ≤ n
  · go_enter Tryd.func53, Tryd.ntmps53
    go_wp2
    go_ret
    exact ⟨ret_bool (by simp [Nums.inB, h1]), rfl⟩
  · go_enter Tryd.func53, Tryd.ntmps53
    go_wp2
    go_ret
    exact ⟨ret_bool (by simp [Nums.inB]; omega), rfl⟩

set_option maxHeartbeats 400000 in
theorem in_any (n lo hi : Int) (w : World) :
    Calls Tryd.prog 58 #[.int .i64 n, .int .i64 lo, .int .i64 hi] w fun e w' => e = .returned (.bool (Nums.inB n lo hi)) ∧ w' = w := by
  by_cases h1 : lo ≤ n
  · go_enter Tryd.func58, Tryd.ntmps58
    go_wp2
    go_ret
    exact ⟨ret_bool (by simp [Nums.inB, h1]), rfl⟩
  · go_enter Tryd.func58, Tryd.ntmps58
    go_wp2
    go_ret
    exact ⟨ret_bool (by simp [Nums.inB]; omega), rfl⟩

/-- The cells of a slice of ints that is not empty. -/
def RowAt (w : World) (b off : Nat) (zs : List Int) : Prop := ∀ j, j < zs.length → w.cell? ⟨b, off + j, none⟩ = some (.int .i64 (zs.getD j 0))

set_option maxHeartbeats 400000 in
theorem goes_any (b off cap : Nat) (zs : List Int) (k0 : Nat) (w : World) (hz : zs.length ≤ 6) (hk0 : k0 < zs.length) (hr : RowAt w b off zs) :
    Calls Tryd.prog 94 #[.slice (some ⟨b, off, none⟩) zs.length cap, .int .i64 k0] w fun e w' => e = .returned (.bool (Nums.goes zs zs.length k0)) ∧ w' = w := by
  go_enter Tryd.func94, Tryd.ntmps94
  go_wp2
  go_loop [1, 7] (fun nd i => ∃ r k : Nat, r ≤ zs.length ∧ k < zs.length ∧ i = .int .i64 r ∧ nd = .int .i64 k ∧ Hid (Nums.goes zs zs.length k0 = Nums.goes zs (zs.length - r) k)) (fun _ i => zs.length - (intOf i).toNat)
  case atStart => exact ⟨0, k0, Nat.zero_le _, hk0, rfl, rfl, rfl⟩
  case round =>
    obtain ⟨r, k, hrn, hkn, rfl, rfl, HG⟩ := hrel
    by_cases hlt : r < zs.length
    · by_cases hk : k = 0
      · subst hk
        go_wp2
        go_ret
        refine ⟨ret_bool ?_, rfl⟩
        rw [HG.out, show zs.length - r = (zs.length - r - 1) + 1 by omega, Nums.goes, if_pos rfl]
      · have hcell := hr k hkn
        have hne : ((k : Int) == 0) = false := by simp; omega
        have hkk : (k : Int) < (zs.length : Int) := by omega
        generalize hx : zs.getD k 0 = x at *
        have HX := hide hx
        clear hx
        go_wp2_with fail
        refine (within_any _ _ _ _).mono ?_
        rintro e w' ⟨rfl, rfl⟩
        cases hin : Nums.inB x 0 ((zs.length : Int) - 1) with
        | true =>
          have h2 := Nums.inB_iff.1 hin
          have HI := hide hin
          clear hin
          go_wp2
          refine ⟨⟨r + 1, x.toNat, by omega, by omega, by go_num, by rw [Int.toNat_of_nonneg h2.1], ?_⟩, by simp [intOf]; omega⟩
          show Nums.goes zs zs.length k0 = _
          rw [HG.out, show zs.length - r = (zs.length - (r + 1)) + 1 by omega, Nums.goes, if_neg hk, unhide HX, if_pos (unhide HI)]
        | false =>
          have HI := hide hin
          clear hin
          go_wp2
          go_ret
          refine ⟨ret_bool ?_, rfl⟩
          rw [HG.out, show zs.length - r = (zs.length - r - 1) + 1 by omega, Nums.goes, if_neg hk, unhide HX, unhide HI]
          rfl
    · go_wp2
      go_ret
      refine ⟨ret_bool ?_, rfl⟩
      rw [HG.out, show zs.length - r = 0 by omega, Nums.goes]

set_option maxHeartbeats 400000 in
theorem comes_any (b off cap : Nat) (zs : List Int) (i0 : Int) (w : World) (hz : zs.length ≤ 6) (hr : RowAt w b off zs) :
    Calls Tryd.prog 59 #[.slice (some ⟨b, off, none⟩) zs.length cap, .int .i64 i0] w fun e w' => e = .returned (.bool (Nums.comes zs (zs.length + 1) i0)) ∧ w' = w := by
  go_enter Tryd.func59, Tryd.ntmps59
  go_wp2
  go_loop [1, 5] (fun nd i => ∃ (r : Nat) (k : Int), r ≤ zs.length + 1 ∧ i = .int .i64 r ∧ nd = .int .i64 k ∧ Hid (Nums.comes zs (zs.length + 1) i0 = Nums.comes zs (zs.length + 1 - r) k)) (fun _ i => zs.length + 1 - (intOf i).toNat)
  case atStart => exact ⟨0, i0, Nat.zero_le _, rfl, rfl, rfl⟩
  case round =>
    obtain ⟨r, k, hrn, rfl, rfl, HG⟩ := hrel
    by_cases hlt : r ≤ zs.length
    · by_cases hk : k = 0
      · subst hk
        go_wp2
        go_ret
        refine ⟨ret_bool ?_, rfl⟩
        rw [HG.out, show zs.length + 1 - r = (zs.length - r) + 1 by omega, Nums.comes, if_pos rfl]
      · have hne : (k == 0) = false := by simp; omega
        by_cases hlo : k < 0
        · go_wp2
          go_ret
          refine ⟨ret_bool ?_, rfl⟩
          rw [HG.out, show zs.length + 1 - r = (zs.length - r) + 1 by omega, Nums.comes, if_neg hk, if_pos (.inl hlo)]
        · by_cases hhi : (zs.length : Int) ≤ k
          · go_wp2
            go_ret
            refine ⟨ret_bool ?_, rfl⟩
            rw [HG.out, show zs.length + 1 - r = (zs.length - r) + 1 by omega, Nums.comes, if_neg hk, if_pos (.inr hhi)]
          · obtain ⟨n, rfl⟩ := Int.eq_ofNat_of_zero_le (show 0 ≤ k by omega)
            have hcell := hr n (by omega)
            have hlo' : (0 : Int) ≤ (n : Int) := by omega
            have hhi' : (n : Int) < (zs.length : Int) := by omega
            generalize hx : zs.getD n 0 = x at *
            have HX := hide hx
            clear hx
            go_wp2
            refine ⟨⟨r + 1, x, by omega, by go_num, rfl, ?_⟩, by simp [intOf]; omega⟩
            show Nums.comes zs (zs.length + 1) i0 = _
            rw [HG.out, show zs.length + 1 - r = (zs.length + 1 - (r + 1)) + 1 by omega, Nums.comes, if_neg hk, if_neg (by omega), Int.toNat_natCast, unhide HX]
    · go_wp2
      go_ret
      refine ⟨ret_bool ?_, rfl⟩
      rw [HG.out, show zs.length + 1 - r = 0 by omega, Nums.comes]

theorem num_any (n : Int) (w : World) : Calls Tryd.prog 15 #[.int .i64 n] w fun e w' => e = .returned (.int .i64 n) ∧ w' = w := by
  go_enter Tryd.func15, Tryd.ntmps15
  go_wp2
  go_ret
  exact ⟨rfl, rfl⟩

end Go.Proofs.YtpdkojgepagbnaaDoor
