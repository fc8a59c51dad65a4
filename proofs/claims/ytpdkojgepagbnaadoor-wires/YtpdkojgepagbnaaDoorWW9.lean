/-
  Unpack: what the program reads out of some bytes.
-/
import Derived.Test.YtpdkojgepagbnaaDoorWW8
import Derived.Deep.RegionWith
import Derived.BigRegion
import Derived.Deep.CutRange
namespace Go.Proofs.YtpdkojgepagbnaaDoor
set_option maxRecDepth 100000
open Go.RowKit

theorem zeroMsg : (⟨#[]⟩ : ByteArray) = ByteArray.empty := rfl

set_option maxHeartbeats 400000 in
theorem wireUnpack_few (s : ByteArray) (w : World) (h : s.size < 18) :
    Calls Tryd.prog 36 #[.string s] w fun e w' => e = .returned (.tuple #[.agg #[.int .i64 0, .int .i64 0, .int .i64 0, .string ⟨#[]⟩, .int .i64 0, .int .i64 0, .int .i64 0, .int .i64 0, .string ⟨#[]⟩], .int .i64 9]) ∧ Below w.heap.size w w' := by
  go_enter Tryd.func36, Tryd.ntmps36
  go_wp2
  exact bodyPost_ret (v := .tuple #[.agg #[.int .i64 0, .int .i64 0, .int .i64 0, .string ⟨#[]⟩, .int .i64 0, .int .i64 0, .int .i64 0, .int .i64 0, .string ⟨#[]⟩], .int .i64 9]) (by simp [results, Tryd.results36, go_sem]) rfl ⟨rfl, (Below.refl _ _).alloc (Nat.le_refl _) _⟩

/-- What the places of some bytes tell. -/
def msgOf (s key val : ByteArray) (h : 18 ≤ s.size) : Msg :=
  ⟨((s[0]'(by omega)).toNat : Int), ((s[1]'(by omega)).toNat : Int), ((s[2]'(by omega)).toNat : Int), key, (numL (s.extract 3 7).data.toList : Int), (numL (s.extract 7 11).data.toList : Int) - 1, (numL (s.extract 11 17).data.toList : Int), ((s[17]'(by omega)).toNat : Int), val⟩

/-- What comes out: the message, or none. -/
def noMsg : Msg := ⟨0, 0, 0, ⟨#[]⟩, 0, 0, 0, 0, ⟨#[]⟩⟩
def gotM (m : Msg) : Msg := if soundB m then m else noMsg

theorem numL_four (s : ByteArray) (a b : Nat) (h : b - a ≤ 6) : numL (s.extract a b).data.toList < 281474976710656 := by
  refine Nat.lt_of_lt_of_le (numL_lt _) ?_
  have h1 : (s.extract a b).data.toList.length ≤ 6 := by
    have : (s.extract a b).data.toList.length = (s.extract a b).size := Array.length_toList
    rw [this, ByteArray.size_extract]; omega
  exact Nat.le_trans (Nat.pow_le_pow_right (by decide) h1) (by decide)

theorem number_named (s : ByteArray) (a b : Nat) (h : b - a ≤ 6) : ∃ n : Nat, (n = numL (s.extract a b).data.toList ∧ n < 281474976710656) ∧ ∀ w, Calls Tryd.prog 67 #[.string (s.extract a b)] w fun e w' => e = .returned (.int .i64 (n : Int)) ∧ w' = w :=
  ⟨_, ⟨rfl, numL_four s a b h⟩, fun w => wireNumber_any _ w (by rw [ByteArray.size_extract]; omega)⟩

theorem frozen_row {w : World} {B j : Nat} {cs : Array Value} {t : TypeId} (h : w.heap[B]? = some (.cells cs t (0, 0))) : w.frozen? ⟨B, j, none⟩ = false := by
  simp [World.frozen?, h]

set_option maxHeartbeats 4000000 in
theorem wireUnpack_all (s : ByteArray) (k v : Nat) (w : World) (hm : s.size ≤ maxLen) (h18 : 18 ≤ s.size) (x : ByteArray) (hx : s.extract 18 s.size = x) (hk : x.toList.isEmpty = false) (h0 : 0 < x.size) (hk0 : x[0].toNat = k) (hkl : 1 + k ≤ x.size)
    (r : ByteArray) (hr : x.extract (1 + k) x.size = r) (hre : r.toList.isEmpty = false) (hr0 : 0 < r.size) (hv0 : r[0].toNat = v) (hvl : 1 + v ≤ r.size) (hend : (r.extract (1 + v) r.size).toList.isEmpty = true) (hT : KindTab w) (hK : KeyTab w) :
    Calls Tryd.prog 36 #[.string s] w fun e w' => e = .returned (.tuple #[.agg (gotM (msgOf s (x.extract 1 (1 + k)) (r.extract 1 (1 + v)) h18)).cells, .int .i64 (packE (msgOf s (x.extract 1 (1 + k)) (r.extract 1 (1 + v)) h18))]) ∧ Below w.heap.size w w' := by
  have hm1 : x.size ≤ maxLen := by rw [← hx, ByteArray.size_extract]; unfold maxLen at *; omega
  have hrm : r.size ≤ maxLen := by rw [← hr, ByteArray.size_extract]; unfold maxLen at *; omega
  unfold maxLen at hm
  have HR := hide hr
  clear hr
  go_enter Tryd.func36, Tryd.ntmps36
  go_wp2_with fail
  refine (cut_whole x k _ hm1 h0 hk hk0 hkl).mono ?_
  rintro e w1 ⟨rfl, n1, rfl⟩
  rw [unhide HR]
  generalize hkey : x.extract 1 (1 + k) = key at *
  have hks : key.size ≤ 256 := by rw [← hkey, ByteArray.size_extract]; have := x[0].toNat_lt; omega
  have HKE := hide hkey
  clear hkey
  go_wp2_with fail
  refine (cut_whole r v _ hrm hr0 hre hv0 hvl).mono ?_
  rintro e w1 ⟨rfl, n2, rfl⟩
  generalize hval : r.extract 1 (1 + v) = val at *
  have HVA := hide hval
  clear hval
  generalize r.extract (1 + v) r.size = z at *
  clear hk h0 hk0 hkl hre hr0 hv0 hvl HR hm1 hrm hx
  go_wp2_with fail
  obtain ⟨W, hW⟩ : ∃ W, ((w.alloc (.cells #[.int .i64 0, .int .i64 0, .int .i64 0, .string ⟨#[]⟩, .int .i64 0, .int .i64 0, .int .i64 0, .int .i64 0, .string ⟨#[]⟩] 23)).drewN (n1 + n2)) = W := ⟨_, rfl⟩
  rw [hW]
  have hbW : Below w.heap.size w W := by rw [← hW]; exact below_drewN (below_alloc1' _ _) _
  have HW := hide hW
  clear hW
  obtain ⟨a3, g3, d3⟩ := number_named s 3 7 (by omega)
  obtain ⟨a7, g7, d7⟩ := number_named s 7 11 (by omega)
  obtain ⟨a11, g11, d11⟩ := number_named s 11 17 (by omega)
  have hM : (⟨(s[0].toNat : Int), (s[1].toNat : Int), (s[2].toNat : Int), key, (a3 : Int), (a7 : Int) - 1, (a11 : Int), (s[17].toNat : Int), val⟩ : Msg) = msgOf s key val h18 := by rw [g3.1, g7.1, g11.1]; rfl
  have HM := hide hM
  clear hM
  have b7 := g7.2
  clear g3 g7 g11
  go_cut [9] from 38 to 62 (fun p wx => p = .pointer (some ⟨W.heap.size, 0, none⟩) ∧ wx.heap[W.heap.size]? = some (.cells #[.int .i64 (s[0].toNat : Int), .int .i64 (s[1].toNat : Int), .int .i64 (s[2].toNat : Int), .string key, .int .i64 (a3 : Int), .int .i64 ((a7 : Int) - 1), .int .i64 (a11 : Int), .int .i64 (s[17].toNat : Int), .string val] 23 (0, 0)) ∧ Below W.heap.size W wx)
  case first =>
    have j0 : 0 < s.size := by omega
    have j1 : 1 < s.size := by omega
    have j2 : 2 < s.size := by omega
    have j17 : 17 < s.size := by omega
    have b0 : s[0].toNat < 256 := s[0].toNat_lt
    have b1 : s[1].toNat < 256 := s[1].toNat_lt
    have b2 : s[2].toNat < 256 := s[2].toNat_lt
    have b17 : s[17].toNat < 256 := s[17].toNat_lt
    have p0 : (0 : Int) < (s.size : Int) := by omega
    have q0 : IntKind.i64.wrap (s[0].toNat : Int) = (s[0].toNat : Int) := by rw [IntKind.wrap_i64]; omega
    have p1 : (1 : Int) < (s.size : Int) := by omega
    have q1 : IntKind.i64.wrap (s[1].toNat : Int) = (s[1].toNat : Int) := by rw [IntKind.wrap_i64]; omega
    have p2 : (2 : Int) < (s.size : Int) := by omega
    have q2 : IntKind.i64.wrap (s[2].toNat : Int) = (s[2].toNat : Int) := by rw [IntKind.wrap_i64]; omega
    have p17 : (17 : Int) < (s.size : Int) := by omega
    have q17 : IntKind.i64.wrap (s[17].toNat : Int) = (s[17].toNat : Int) := by rw [IntKind.wrap_i64]; omega
    have q7 : IntKind.i64.wrap ((a7 : Int) + -1) = (a7 : Int) - 1 := by rw [IntKind.wrap_i64]; omega
    have D3 := hide d3
    have D7 := hide d7
    have D11 := hide d11
    clear d3 d7 d11
    have i7 : (7 : Int) ≤ (s.size : Int) := by omega
    have i11 : (11 : Int) ≤ (s.size : Int) := by omega
    have i17 : (17 : Int) ≤ (s.size : Int) := by omega
    refine wp_region_any (by kernel_rfl) ?_
    change wpAny _ _ _ _ _ _ _ (World.drew _)
    refine wpAny_take (i := 0) (v := .string s) rfl (by kernel_rfl) (by kernel_rfl) (by kernel_rfl) (fun _ _ _ h => h) (Or.inl ⟨by rfl, fun w => by go_simp⟩) ?_
    refine wpAny_take (i := 1) (v := .int .u8 (s[0].toNat : Int)) rfl (by kernel_rfl) (by kernel_rfl) (by kernel_rfl) (fun _ _ _ h => h) (Or.inl ⟨by rfl, fun w => by go_simp⟩) ?_
    refine wpAny_take (i := 2) (v := .int .i64 (s[0].toNat : Int)) rfl (by kernel_rfl) (by kernel_rfl) (by kernel_rfl) (fun _ _ _ h => h) (Or.inl ⟨by rfl, fun w => by go_simp⟩) ?_
    refine wpAny_take (i := 3) (v := .string s) rfl (by kernel_rfl) (by kernel_rfl) (by kernel_rfl) (fun _ _ _ h => h) (Or.inl ⟨by rfl, fun w => by go_simp⟩) ?_
    refine wpAny_take (i := 4) (v := .int .u8 (s[1].toNat : Int)) rfl (by kernel_rfl) (by kernel_rfl) (by kernel_rfl) (fun _ _ _ h => h) (Or.inl ⟨by rfl, fun w => by go_simp⟩) ?_
    refine wpAny_take (i := 5) (v := .int .i64 (s[1].toNat : Int)) rfl (by kernel_rfl) (by kernel_rfl) (by kernel_rfl) (fun _ _ _ h => h) (Or.inl ⟨by rfl, fun w => by go_simp⟩) ?_
    refine wpAny_take (i := 6) (v := .string s) rfl (by kernel_rfl) (by kernel_rfl) (by kernel_rfl) (fun _ _ _ h => h) (Or.inl ⟨by rfl, fun w => by go_simp⟩) ?_
    refine wpAny_take (i := 7) (v := .int .u8 (s[2].toNat : Int)) rfl (by kernel_rfl) (by kernel_rfl) (by kernel_rfl) (fun _ _ _ h => h) (Or.inl ⟨by rfl, fun w => by go_simp⟩) ?_
    refine wpAny_take (i := 8) (v := .int .i64 (s[2].toNat : Int)) rfl (by kernel_rfl) (by kernel_rfl) (by kernel_rfl) (fun _ _ _ h => h) (Or.inl ⟨by rfl, fun w => by go_simp⟩) ?_
    refine wpAny_take (i := 9) (v := .string key) rfl (by kernel_rfl) (by kernel_rfl) (by kernel_rfl) (fun _ _ _ h => h) (Or.inl ⟨by rfl, fun w => by go_simp⟩) ?_
    refine wpAny_take (i := 10) (v := .string s) rfl (by kernel_rfl) (by kernel_rfl) (by kernel_rfl) (fun _ _ _ h => h) (Or.inl ⟨by rfl, fun w => by go_simp⟩) ?_
    refine wpAny_take (i := 11) (v := .string (s.extract 3 7)) rfl (by kernel_rfl) (by kernel_rfl) (by kernel_rfl) (fun _ _ _ h => h) (Or.inl ⟨by rfl, fun w => by go_simp⟩) ?_
    refine wpAny_take (i := 13) (v := .string s) rfl (by kernel_rfl) (by kernel_rfl) (by kernel_rfl) (fun _ _ _ h => h) (Or.inl ⟨by rfl, fun w => by go_simp⟩) ?_
    refine wpAny_take (i := 14) (v := .string (s.extract 7 11)) rfl (by kernel_rfl) (by kernel_rfl) (by kernel_rfl) (fun _ _ _ h => h) (Or.inl ⟨by rfl, fun w => by go_simp⟩) ?_
    refine wpAny_take (i := 17) (v := .string s) rfl (by kernel_rfl) (by kernel_rfl) (by kernel_rfl) (fun _ _ _ h => h) (Or.inl ⟨by rfl, fun w => by go_simp⟩) ?_
    refine wpAny_take (i := 18) (v := .string (s.extract 11 17)) rfl (by kernel_rfl) (by kernel_rfl) (by kernel_rfl) (fun _ _ _ h => h) (Or.inl ⟨by rfl, fun w => by go_simp⟩) ?_
    refine wpAny_take (i := 20) (v := .string s) rfl (by kernel_rfl) (by kernel_rfl) (by kernel_rfl) (fun _ _ _ h => h) (Or.inl ⟨by rfl, fun w => by go_simp⟩) ?_
    refine wpAny_take (i := 21) (v := .int .u8 (s[17].toNat : Int)) rfl (by kernel_rfl) (by kernel_rfl) (by kernel_rfl) (fun _ _ _ h => h) (Or.inl ⟨by rfl, fun w => by go_simp⟩) ?_
    refine wpAny_take (i := 22) (v := .int .i64 (s[17].toNat : Int)) rfl (by kernel_rfl) (by kernel_rfl) (by kernel_rfl) (fun _ _ _ h => h) (Or.inl ⟨by rfl, fun w => by go_simp⟩) ?_
    refine wpAny_take (i := 23) (v := .string val) rfl (by kernel_rfl) (by kernel_rfl) (by kernel_rfl) (fun _ _ _ h => h) (Or.inl ⟨by rfl, fun w => by go_simp⟩) ?_
    refine wpAny_ready (rs := [12, 25]) (by kernel_rfl) (by simp) ?_
    refine AllReady.cons rfl (fun K hK => ?_) ?_
    · go_simp
      go_wp2_with (go_at_call 67; refine (unhide D3 _).mono ?_; rintro e w' ⟨rfl, rfl⟩)
      refine wpAny_ready (rs := [15, 25]) (by kernel_rfl) (by simp) ?_
      refine AllReady.cons rfl (fun K hK => ?_) ?_
      · go_simp
        go_wp2_with (go_at_call 67; refine (unhide D7 _).mono ?_; rintro e w' ⟨rfl, rfl⟩)
        refine wpAny_take (i := 16) (v := .int .i64 ((a7 : Int) - 1)) rfl (by kernel_rfl) (by kernel_rfl) (by kernel_rfl) (fun _ _ _ h => h) (Or.inl ⟨by rfl, fun w => by go_simp⟩) ?_
        refine wpAny_ready (rs := [19, 25]) (by kernel_rfl) (by simp) ?_
        refine AllReady.cons rfl (fun K hK => ?_) ?_
        · go_simp
          go_wp2_with (go_at_call 67; refine (unhide D11 _).mono ?_; rintro e w' ⟨rfl, rfl⟩)
          refine wpAny_take (i := 24) (v := .agg #[.int .i64 (s[0].toNat : Int), .int .i64 (s[1].toNat : Int), .int .i64 (s[2].toNat : Int), .string key, .int .i64 (a3 : Int), .int .i64 ((a7 : Int) - 1), .int .i64 (a11 : Int), .int .i64 (s[17].toNat : Int), .string val]) rfl (by kernel_rfl) (by kernel_rfl) (by kernel_rfl) (fun _ _ _ h => h) (Or.inl ⟨by rfl, fun w => by go_simp⟩) ?_
          refine wpAny_ready (rs := [25]) (by kernel_rfl) (by simp) ?_
          refine AllReady.cons rfl (fun K hK => ?_) AllReady.nil
          go_simp
          refine hK _ _ ?_
          clear hK K
          refine wpAny_ready (rs := [26]) (by kernel_rfl) (by simp) ?_
          refine AllReady.cons rfl (fun K hK => ?_) AllReady.nil
          go_simp
          refine hK _ _ ?_
          clear hK K
          refine wpAny_done (by kernel_rfl) ?_ _
          go_wp2_with fail
          go_meet
          exact ⟨rfl, heap_alloc_new' _, (below_alloc1' W _).drew⟩
        refine AllReady.cons rfl (fun K hK => ?_) ?_
        · go_simp
          refine hK _ _ ?_
          clear hK K
          refine wpAny_ready (rs := [19]) (by kernel_rfl) (by simp) ?_
          refine AllReady.cons rfl (fun K hK => ?_) AllReady.nil
          go_simp
          go_wp2_with (go_at_call 67; refine (unhide D11 _).mono ?_; rintro e w' ⟨rfl, rfl⟩)
          refine wpAny_take (i := 24) (v := .agg #[.int .i64 (s[0].toNat : Int), .int .i64 (s[1].toNat : Int), .int .i64 (s[2].toNat : Int), .string key, .int .i64 (a3 : Int), .int .i64 ((a7 : Int) - 1), .int .i64 (a11 : Int), .int .i64 (s[17].toNat : Int), .string val]) rfl (by kernel_rfl) (by kernel_rfl) (by kernel_rfl) (fun _ _ _ h => h) (Or.inl ⟨by rfl, fun w => by go_simp⟩) ?_
          refine wpAny_ready (rs := [26]) (by kernel_rfl) (by simp) ?_
          refine AllReady.cons rfl (fun K hK => ?_) AllReady.nil
          go_simp
          refine hK _ _ ?_
          clear hK K
          refine wpAny_done (by kernel_rfl) ?_ _
          go_wp2_with fail
          go_meet
          exact ⟨rfl, heap_alloc_new' _, (below_alloc1' W _).drew⟩
        exact AllReady.nil
      refine AllReady.cons rfl (fun K hK => ?_) ?_
      · go_simp
        refine hK _ _ ?_
        clear hK K
        refine wpAny_ready (rs := [15]) (by kernel_rfl) (by simp) ?_
        refine AllReady.cons rfl (fun K hK => ?_) AllReady.nil
        go_simp
        go_wp2_with (go_at_call 67; refine (unhide D7 _).mono ?_; rintro e w' ⟨rfl, rfl⟩)
        refine wpAny_take (i := 16) (v := .int .i64 ((a7 : Int) - 1)) rfl (by kernel_rfl) (by kernel_rfl) (by kernel_rfl) (fun _ _ _ h => h) (Or.inl ⟨by rfl, fun w => by go_simp⟩) ?_
        refine wpAny_ready (rs := [19]) (by kernel_rfl) (by simp) ?_
        refine AllReady.cons rfl (fun K hK => ?_) ?_
        · go_simp
          go_wp2_with (go_at_call 67; refine (unhide D11 _).mono ?_; rintro e w' ⟨rfl, rfl⟩)
          refine wpAny_take (i := 24) (v := .agg #[.int .i64 (s[0].toNat : Int), .int .i64 (s[1].toNat : Int), .int .i64 (s[2].toNat : Int), .string key, .int .i64 (a3 : Int), .int .i64 ((a7 : Int) - 1), .int .i64 (a11 : Int), .int .i64 (s[17].toNat : Int), .string val]) rfl (by kernel_rfl) (by kernel_rfl) (by kernel_rfl) (fun _ _ _ h => h) (Or.inl ⟨by rfl, fun w => by go_simp⟩) ?_
          refine wpAny_ready (rs := [26]) (by kernel_rfl) (by simp) ?_
          refine AllReady.cons rfl (fun K hK => ?_) AllReady.nil
          go_simp
          refine hK _ _ ?_
          clear hK K
          refine wpAny_done (by kernel_rfl) ?_ _
          go_wp2_with fail
          go_meet
          exact ⟨rfl, heap_alloc_new' _, (below_alloc1' W _).drew⟩
        exact AllReady.nil
      exact AllReady.nil
    refine AllReady.cons rfl (fun K hK => ?_) ?_
    · go_simp
      refine hK _ _ ?_
      clear hK K
      refine wpAny_ready (rs := [12]) (by kernel_rfl) (by simp) ?_
      refine AllReady.cons rfl (fun K hK => ?_) AllReady.nil
      go_simp
      go_wp2_with (go_at_call 67; refine (unhide D3 _).mono ?_; rintro e w' ⟨rfl, rfl⟩)
      refine wpAny_ready (rs := [15]) (by kernel_rfl) (by simp) ?_
      refine AllReady.cons rfl (fun K hK => ?_) ?_
      · go_simp
        go_wp2_with (go_at_call 67; refine (unhide D7 _).mono ?_; rintro e w' ⟨rfl, rfl⟩)
        refine wpAny_take (i := 16) (v := .int .i64 ((a7 : Int) - 1)) rfl (by kernel_rfl) (by kernel_rfl) (by kernel_rfl) (fun _ _ _ h => h) (Or.inl ⟨by rfl, fun w => by go_simp⟩) ?_
        refine wpAny_ready (rs := [19]) (by kernel_rfl) (by simp) ?_
        refine AllReady.cons rfl (fun K hK => ?_) ?_
        · go_simp
          go_wp2_with (go_at_call 67; refine (unhide D11 _).mono ?_; rintro e w' ⟨rfl, rfl⟩)
          refine wpAny_take (i := 24) (v := .agg #[.int .i64 (s[0].toNat : Int), .int .i64 (s[1].toNat : Int), .int .i64 (s[2].toNat : Int), .string key, .int .i64 (a3 : Int), .int .i64 ((a7 : Int) - 1), .int .i64 (a11 : Int), .int .i64 (s[17].toNat : Int), .string val]) rfl (by kernel_rfl) (by kernel_rfl) (by kernel_rfl) (fun _ _ _ h => h) (Or.inl ⟨by rfl, fun w => by go_simp⟩) ?_
          refine wpAny_ready (rs := [26]) (by kernel_rfl) (by simp) ?_
          refine AllReady.cons rfl (fun K hK => ?_) AllReady.nil
          go_simp
          refine hK _ _ ?_
          clear hK K
          refine wpAny_done (by kernel_rfl) ?_ _
          go_wp2_with fail
          go_meet
          exact ⟨rfl, heap_alloc_new' _, (below_alloc1' W _).drew⟩
        exact AllReady.nil
      exact AllReady.nil
    exact AllReady.nil
  case rest =>
    obtain ⟨rfl, hh, hbc⟩ := hcut
    have hzW : W.heap[w.heap.size]? = some (.cells noMsg.cells 23 (0, 0)) := by rw [← unhide HW]; exact heap_alloc_new' _
    have hwW : w.heap.size < W.heap.size := (Array.getElem?_eq_some_iff.1 hzW).1
    have hcW : W.heap.size < wc.heap.size := (Array.getElem?_eq_some_iff.1 hh).1
    have hZ : wc.heap[w.heap.size]? = some (.cells noMsg.cells 23 (0, 0)) := by rw [hbc.block _ hwW]; exact hzW
    have hTc : KindTab wc := (hT.later hbW).later hbc
    have hKc : KeyTab wc := (hK.later hbW).later hbc
    obtain ⟨c0, c1, c2, c3, c4, c5, c6, c7, c8⟩ := MsgAt.of_heap (m := ⟨(s[0].toNat : Int), (s[1].toNat : Int), (s[2].toNat : Int), key, (a3 : Int), (a7 : Int) - 1, (a11 : Int), (s[17].toNat : Int), val⟩) hh
    have HH := hide hh
    have HZ := hide hZ
    clear hh hZ hzW d3 d7 d11
    go_wp2_with fail
    refine (wireRight_any ⟨(s[0].toNat : Int), (s[1].toNat : Int), (s[2].toNat : Int), key, (a3 : Int), (a7 : Int) - 1, (a11 : Int), (s[17].toNat : Int), val⟩ wc (show key.size ≤ maxLen by unfold maxLen; omega) hTc hKc).mono ?_
    rintro e w5 ⟨rfl, hb5⟩
    rw [unhide HM]
    have hb5' : Below w.heap.size w w5 := hbW.trans ((hbc.mono (by omega)).trans (hb5.mono (by omega)))
    have hZ5 : w5.heap[w.heap.size]? = some (.cells noMsg.cells 23 (0, 0)) := by rw [hb5.block _ (by omega)]; exact unhide HZ
    have hH5 : w5.heap[W.heap.size]? = some (.cells (msgOf s key val h18).cells 23 (0, 0)) := by rw [hb5.block _ hcW, ← unhide HM]; exact unhide HH
    have hs5 : W.heap.size < w5.heap.size := Nat.lt_of_lt_of_le hcW hb5.size
    clear c0 c1 c2 c3 c4 c5 c6 c7 c8 hTc hKc hT hK HH HZ HW hb5 hbc
    cases hS : soundB (msgOf s key val h18) with
    | false =>
      have HP : Hid (gotM (msgOf s (x.extract 1 (1 + k)) (r.extract 1 (1 + v)) h18) = noMsg ∧ packE (msgOf s (x.extract 1 (1 + k)) (r.extract 1 (1 + v)) h18) = 9) := by
        show _ ∧ _
        rw [unhide HKE, unhide HVA, gotM, packE, hS]; exact ⟨rfl, rfl⟩
      clear hS HM HKE HVA hH5
      obtain ⟨z0, z1, z2, z3, z4, z5, z6, z7, z8⟩ := MsgAt.of_heap hZ5
      have hf : ∀ i, w5.frozen? ⟨w.heap.size, i, none⟩ = false := fun i => frozen_row hZ5
      clear hZ5
      go_wp2
      exact bodyPost_ret (v := .tuple #[.agg #[.int .i64 0, .int .i64 0, .int .i64 0, .string ⟨#[]⟩, .int .i64 0, .int .i64 0, .int .i64 0, .int .i64 0, .string ⟨#[]⟩], .int .i64 9]) (by simp [results, Tryd.results36, go_sem, z0, z1, z2, z3, z4, z5, z6, z7, z8]) rfl
        ⟨by rw [(unhide HP).1, (unhide HP).2]; rfl, (((((((((hb5'.setCell (Nat.le_refl _) _).setCell (Nat.le_refl _) _).setCell (Nat.le_refl _) _).setCell (Nat.le_refl _) _).setCell (Nat.le_refl _) _).setCell (Nat.le_refl _) _).setCell (Nat.le_refl _) _).setCell (Nat.le_refl _) _).setCell (Nat.le_refl _) _)⟩
    | true =>
      have HP : Hid (gotM (msgOf s (x.extract 1 (1 + k)) (r.extract 1 (1 + v)) h18) = msgOf s key val h18 ∧ packE (msgOf s (x.extract 1 (1 + k)) (r.extract 1 (1 + v)) h18) = 0) := by
        show _ ∧ _
        rw [unhide HKE, unhide HVA, gotM, packE, hS]; exact ⟨rfl, rfl⟩
      have hsp := sound_parts hS
      have hvs : val.size ≤ 16 := by have := hsp.2.2.2.2.2.2.2.2.2.2.2.2.2.2.2; exact this
      clear hsp hS HKE HVA
      go_wp2_with fail
      refine (clone_any key _ (by omega)).mono ?_
      rintro e w6 ⟨rfl, hb6⟩
      go_wp2_with fail
      refine (clone_any val _ (by omega)).mono ?_
      rintro e w7 ⟨rfl, hb7⟩
      have hb57 : Below w5.heap.size w5 w7 := hb6.trans (hb7.mono hb6.size)
      have hb7' : Below w.heap.size w w7 := hb5'.trans (hb57.mono hb5'.size)
      have hZ7 : w7.heap[w.heap.size]? = some (.cells noMsg.cells 23 (0, 0)) := by rw [hb57.block _ (by omega)]; exact hZ5
      have hH7 : w7.heap[W.heap.size]? = some (.cells (⟨(s[0].toNat : Int), (s[1].toNat : Int), (s[2].toNat : Int), key, (a3 : Int), (a7 : Int) - 1, (a11 : Int), (s[17].toNat : Int), val⟩ : Msg).cells 23 (0, 0)) := by rw [hb57.block _ hs5, unhide HM]; exact hH5
      clear hb6 hb7 hb57 hZ5 hH5 hb5'
      obtain ⟨z0, z1, z2, z3, z4, z5, z6, z7, z8⟩ := MsgAt.of_heap hZ7
      obtain ⟨c0, c1, c2, c3, c4, c5, c6, c7, c8⟩ := MsgAt.of_heap hH7
      have hf : ∀ i, w7.frozen? ⟨w.heap.size, i, none⟩ = false := fun i => frozen_row hZ7
      have hg : ∀ i, w7.frozen? ⟨W.heap.size, i, none⟩ = false := fun i => frozen_row hH7
      clear hZ7 hH7
      have hne : w.heap.size ≠ W.heap.size := by omega
      have hne' : W.heap.size ≠ w.heap.size := by omega
      go_wp2
      exact bodyPost_ret (v := .tuple #[.agg #[.int .i64 (s[0].toNat : Int), .int .i64 (s[1].toNat : Int), .int .i64 (s[2].toNat : Int), .string key, .int .i64 (a3 : Int), .int .i64 ((a7 : Int) - 1), .int .i64 (a11 : Int), .int .i64 (s[17].toNat : Int), .string val], .int .i64 0]) (by simp [results, Tryd.results36, go_sem, z0, z1, z2, z3, z4, z5, z6, z7, z8]) rfl
        ⟨by rw [(unhide HP).1, (unhide HP).2, ← unhide HM]; rfl, (((((((((((hb7'.setCell (p := ⟨W.heap.size, 3, none⟩) (show w.heap.size ≤ W.heap.size by omega) _).setCell (p := ⟨W.heap.size, 8, none⟩) (show w.heap.size ≤ W.heap.size by omega) _).setCell (Nat.le_refl _) _).setCell (Nat.le_refl _) _).setCell (Nat.le_refl _) _).setCell (Nat.le_refl _) _).setCell (Nat.le_refl _) _).setCell (Nat.le_refl _) _).setCell (Nat.le_refl _) _).setCell (Nat.le_refl _) _).setCell (Nat.le_refl _) _)⟩

end Go.Proofs.YtpdkojgepagbnaaDoor
