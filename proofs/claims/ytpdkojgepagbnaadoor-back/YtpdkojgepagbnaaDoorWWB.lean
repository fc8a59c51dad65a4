/-
  Unpack: what the document reads out of some bytes.
-/
import Derived.Test.YtpdkojgepagbnaaDoorWW9
namespace Go.Proofs.YtpdkojgepagbnaaDoor
set_option maxRecDepth 100000
open Go.RowKit

theorem refNumber_named (s : ByteArray) (a b : Nat) (h : b - a ≤ 6) : ∃ n : Nat, (n = numL (s.extract a b).data.toList ∧ n < 281474976710656) ∧ ∀ w, Calls Tryd.prog 62 #[.string (s.extract a b)] w fun e w' => e = .returned (.int .i64 (n : Int)) ∧ w' = w :=
  ⟨_, ⟨rfl, numL_four s a b h⟩, fun w => refNumber_any _ w (by rw [ByteArray.size_extract]; omega)⟩

theorem heap_alloc_at {g : Nat} (w : World) (o : Obj) (hg : g = w.heap.size) : (w.alloc o).heap[g]? = some o := by
  subst hg; exact heap_alloc_new' o

set_option maxHeartbeats 400000 in
theorem refUnpack_few (s : ByteArray) (w : World) (h : s.size < 20) :
    Calls Tryd.prog 34 #[.string s] w fun e w' => e = .returned (.tuple #[.agg noMsg.cells, .int .i64 9]) ∧ Below w.heap.size w w' := by
  go_enter Tryd.func34, Tryd.ntmps34
  go_wp2
  exact bodyPost_ret (v := .tuple #[.agg #[.int .i64 0, .int .i64 0, .int .i64 0, .string ⟨#[]⟩, .int .i64 0, .int .i64 0, .int .i64 0, .int .i64 0, .string ⟨#[]⟩], .int .i64 9]) (by simp [results, Tryd.results34, go_sem]) rfl ⟨rfl, ((Below.refl _ _).alloc (Nat.le_refl _) _).alloc (by simp) _⟩

set_option maxHeartbeats 400000 in
theorem refUnpack_short (s : ByteArray) (k : Nat) (w : World) (hm : s.size ≤ maxLen) (h20 : 20 ≤ s.size) (hk : s[18].toNat = k) (h : s.size < 20 + k) :
    Calls Tryd.prog 34 #[.string s] w fun e w' => e = .returned (.tuple #[.agg noMsg.cells, .int .i64 9]) ∧ Below w.heap.size w w' := by
  unfold maxLen at hm
  have hc2 : k < 256 := by rw [← hk]; exact s[18].toNat_lt
  have i18 : (18 : Int) < (s.size : Int) := by omega
  go_enter Tryd.func34, Tryd.ntmps34
  go_wp2
  exact bodyPost_ret (v := .tuple #[.agg #[.int .i64 0, .int .i64 0, .int .i64 0, .string ⟨#[]⟩, .int .i64 0, .int .i64 0, .int .i64 0, .int .i64 0, .string ⟨#[]⟩], .int .i64 9]) (by simp [results, Tryd.results34, go_sem]) rfl ⟨rfl, ((Below.refl _ _).alloc (Nat.le_refl _) _).alloc (by simp) _⟩

/-- The document's answer: the message if its Pack is just these bytes. -/
def refGot (s : ByteArray) (m : Msg) : Bool := soundB m && ((packS m).toList == s.toList)

def refM (s : ByteArray) (m : Msg) : Msg := if refGot s m then m else noMsg
def refE (s : ByteArray) (m : Msg) : Int := if refGot s m then 0 else 9

set_option maxHeartbeats 4000000 in
theorem refUnpack_all (s : ByteArray) (k : Nat) (w : World) (hm : s.size ≤ maxLen) (h18 : 18 ≤ s.size) (hlen : 20 + k ≤ s.size) (hk : (s[18]'(by omega)).toNat = k) :
    Calls Tryd.prog 34 #[.string s] w fun e w' => e = .returned (.tuple #[.agg (refM s (msgOf s (s.extract 19 (19 + k)) (s.extract (20 + k) s.size) h18)).cells, .int .i64 (refE s (msgOf s (s.extract 19 (19 + k)) (s.extract (20 + k) s.size) h18))]) ∧ Below w.heap.size w w' := by
  unfold maxLen at hm
  have hc2 : k < 256 := by rw [← hk]; exact s[18].toNat_lt
  have i18 : (18 : Int) < (s.size : Int) := by omega
  have hl1 : ¬ (s.size : Int) < 20 := by omega
  have hl2 : ¬ (s.size : Int) < 20 + (k : Int) := by omega
  go_enter Tryd.func34, Tryd.ntmps34
  go_wp2_with fail
  clear hl1 hl2
  obtain ⟨W, hW⟩ : ∃ W, ((w.alloc (.cells #[.int .i64 0, .int .i64 0, .int .i64 0, .string ⟨#[]⟩, .int .i64 0, .int .i64 0, .int .i64 0, .int .i64 0, .string ⟨#[]⟩] 23)).alloc (.cells #[.int .i64 0, .int .i64 0, .int .i64 0, .string ⟨#[]⟩, .int .i64 0, .int .i64 0, .int .i64 0, .int .i64 0, .string ⟨#[]⟩] 23)) = W := ⟨_, rfl⟩
  rw [hW]
  have hbW : Below w.heap.size w W := by rw [← hW]; exact ((Below.refl _ _).alloc (Nat.le_refl _) _).alloc (by simp) _
  have hzW : W.heap[w.heap.size]? = some (.cells noMsg.cells 23 (0, 0)) := by rw [← hW, Below.heap_alloc _ _ _ (by simp)]; exact heap_alloc_new' _
  have hnW : W.heap[w.heap.size + 1]? = some (.cells noMsg.cells 23 (0, 0)) := by rw [← hW]; exact heap_alloc_at _ _ (by simp)
  clear hW
  obtain ⟨a3, g3, d3⟩ := refNumber_named s 3 7 (by omega)
  obtain ⟨a7, g7, d7⟩ := refNumber_named s 7 11 (by omega)
  obtain ⟨a11, g11, d11⟩ := refNumber_named s 11 17 (by omega)
  have hM : (⟨(s[0].toNat : Int), (s[1].toNat : Int), (s[2].toNat : Int), s.extract 19 (19 + k), (a3 : Int), (a7 : Int) - 1, (a11 : Int), (s[17].toNat : Int), s.extract (20 + k) s.size⟩ : Msg) = msgOf s (s.extract 19 (19 + k)) (s.extract (20 + k) s.size) h18 := by rw [g3.1, g7.1, g11.1]; rfl
  have HM := hide hM
  clear hM
  have b7 := g7.2
  have HZ := hide hzW
  have HN := hide hnW
  have hwW : w.heap.size + 1 < W.heap.size := (Array.getElem?_eq_some_iff.1 hnW).1
  clear g3 g7 g11 hzW hnW
  go_cut [6] from 23 to 53 (fun p wx => p = .pointer (some ⟨W.heap.size, 0, none⟩) ∧ wx.heap[W.heap.size]? = some (.cells #[.int .i64 (s[0].toNat : Int), .int .i64 (s[1].toNat : Int), .int .i64 (s[2].toNat : Int), .string (s.extract 19 (19 + k)), .int .i64 (a3 : Int), .int .i64 ((a7 : Int) - 1), .int .i64 (a11 : Int), .int .i64 (s[17].toNat : Int), .string (s.extract (20 + k) s.size)] 23 (0, 0)) ∧ Below W.heap.size W wx)
  case first =>
    have j0 : 0 < s.size := by omega
    have b0 : s[0].toNat < 256 := s[0].toNat_lt
    have p0 : (0 : Int) < (s.size : Int) := by omega
    have q0 : IntKind.i64.wrap (s[0].toNat : Int) = (s[0].toNat : Int) := by rw [IntKind.wrap_i64]; omega
    have j1 : 1 < s.size := by omega
    have b1 : s[1].toNat < 256 := s[1].toNat_lt
    have p1 : (1 : Int) < (s.size : Int) := by omega
    have q1 : IntKind.i64.wrap (s[1].toNat : Int) = (s[1].toNat : Int) := by rw [IntKind.wrap_i64]; omega
    have j2 : 2 < s.size := by omega
    have b2 : s[2].toNat < 256 := s[2].toNat_lt
    have p2 : (2 : Int) < (s.size : Int) := by omega
    have q2 : IntKind.i64.wrap (s[2].toNat : Int) = (s[2].toNat : Int) := by rw [IntKind.wrap_i64]; omega
    have j17 : 17 < s.size := by omega
    have b17 : s[17].toNat < 256 := s[17].toNat_lt
    have p17 : (17 : Int) < (s.size : Int) := by omega
    have q17 : IntKind.i64.wrap (s[17].toNat : Int) = (s[17].toNat : Int) := by rw [IntKind.wrap_i64]; omega
    have q7 : IntKind.i64.wrap ((a7 : Int) - 1) = (a7 : Int) - 1 := by rw [IntKind.wrap_i64]; omega
    have qa : IntKind.i64.wrap (19 + (k : Int)) = 19 + (k : Int) := by rw [IntKind.wrap_i64]; omega
    have qb : IntKind.i64.wrap (20 + (k : Int)) = 20 + (k : Int) := by rw [IntKind.wrap_i64]; omega
    have t19 : (19 + (k : Int)).toNat = 19 + k := by omega
    have t20 : (20 + (k : Int)).toNat = 20 + k := by omega
    have D3 := hide d3
    have D7 := hide d7
    have D11 := hide d11
    clear d3 d7 d11
    have i7 : (7 : Int) ≤ (s.size : Int) := by omega
    have i11 : (11 : Int) ≤ (s.size : Int) := by omega
    have i17 : (17 : Int) ≤ (s.size : Int) := by omega
    have i19 : (19 : Int) ≤ 19 + (k : Int) := by omega
    have i19' : 19 + (k : Int) ≤ (s.size : Int) := by omega
    have i20 : (0 : Int) ≤ 20 + (k : Int) := by omega
    have i20' : 20 + (k : Int) ≤ (s.size : Int) := by omega
    refine wp_region_any (by kernel_rfl) ?_
    change wpAny _ _ _ _ _ _ _ (World.drew _)
    refine wpAny_take (i := 0) (v := .string s) rfl (by kernel_rfl) (by kernel_rfl) (by kernel_rfl) (fun _ _ _ h => h) (Or.inl ⟨by rfl, fun w => by go_simp⟩) ?_
    refine wpAny_take (i := 1) (v := .int .u8 (s[0].toNat : Int)) rfl (by kernel_rfl) (by kernel_rfl) (by kernel_rfl) (fun _ _ _ h => h) (Or.inl ⟨by rfl, fun w => by go_simp⟩) ?_
    refine wpAny_take (i := 2) (v := .int .i64 (s[0].toNat : Int)) rfl (by kernel_rfl) (by kernel_rfl) (by kernel_rfl) (fun _ _ _ h => h) (Or.inl ⟨by rfl, fun w => by go_simp⟩) ?_
    refine wpAny_take (i := 3) (v := .string s) rfl (by kernel_rfl) (by kernel_rfl) (by kernel_rfl) (fun _ _ _ h => h) (Or.inl ⟨by rfl, fun w => by go_simp⟩) ?_
    refine wpAny_take (i := 4) (v := .int .u8 (s[1].toNat : Int)) rfl (by kernel_rfl) (by kernel_rfl) (by kernel_rfl) (fun _ _ _ h => h) (Or.inl ⟨by rfl, fun w => by go_simp⟩) ?_
    refine wpAny_take (i := 5) (v := .int .i64 (s[1].toNat : Int)) rfl (by kernel_rfl) (by kernel_rfl) (by kernel_rfl) (fun _ _ _ h => h) (Or.inl ⟨by rfl, fun w => by go_simp⟩) ?_
    refine wpAny_take (i := 6) (v := .string s) rfl (by kernel_rfl) (by kernel_rfl) (by kernel_rfl) (fun _ _ _ h => h) (Or.inl ⟨by rfl, fun w => by go_simp⟩) ?_
    refine wpAny_take (i := 7) (v := .int .u8 (s[2].toNat : Int)) rfl (by kernel_rfl) (by kernel_rfl) (by kernel_rfl) (fun _ _ _ h => h) (Or.inl ⟨by rfl, fun w => by go_simp⟩) ?_
    refine wpAny_take (i := 8) (v := .int .i64 (s[2].toNat : Int)) rfl (by kernel_rfl) (by kernel_rfl) (by kernel_rfl) (fun _ _ _ h => h) (Or.inl ⟨by rfl, fun w => by go_simp⟩) ?_
    refine wpAny_take (i := 9) (v := .string s) rfl (by kernel_rfl) (by kernel_rfl) (by kernel_rfl) (fun _ _ _ h => h) (Or.inl ⟨by rfl, fun w => by go_simp⟩) ?_
    refine wpAny_take (i := 10) (v := .string (s.extract 3 7)) rfl (by kernel_rfl) (by kernel_rfl) (by kernel_rfl) (fun _ _ _ h => h) (Or.inl ⟨by rfl, fun w => by go_simp⟩) ?_
    refine wpAny_take (i := 12) (v := .string s) rfl (by kernel_rfl) (by kernel_rfl) (by kernel_rfl) (fun _ _ _ h => h) (Or.inl ⟨by rfl, fun w => by go_simp⟩) ?_
    refine wpAny_take (i := 13) (v := .string (s.extract 7 11)) rfl (by kernel_rfl) (by kernel_rfl) (by kernel_rfl) (fun _ _ _ h => h) (Or.inl ⟨by rfl, fun w => by go_simp⟩) ?_
    refine wpAny_take (i := 16) (v := .string s) rfl (by kernel_rfl) (by kernel_rfl) (by kernel_rfl) (fun _ _ _ h => h) (Or.inl ⟨by rfl, fun w => by go_simp⟩) ?_
    refine wpAny_take (i := 17) (v := .string (s.extract 11 17)) rfl (by kernel_rfl) (by kernel_rfl) (by kernel_rfl) (fun _ _ _ h => h) (Or.inl ⟨by rfl, fun w => by go_simp⟩) ?_
    refine wpAny_take (i := 19) (v := .string s) rfl (by kernel_rfl) (by kernel_rfl) (by kernel_rfl) (fun _ _ _ h => h) (Or.inl ⟨by rfl, fun w => by go_simp⟩) ?_
    refine wpAny_take (i := 20) (v := .int .u8 (s[17].toNat : Int)) rfl (by kernel_rfl) (by kernel_rfl) (by kernel_rfl) (fun _ _ _ h => h) (Or.inl ⟨by rfl, fun w => by go_simp⟩) ?_
    refine wpAny_take (i := 21) (v := .int .i64 (s[17].toNat : Int)) rfl (by kernel_rfl) (by kernel_rfl) (by kernel_rfl) (fun _ _ _ h => h) (Or.inl ⟨by rfl, fun w => by go_simp⟩) ?_
    refine wpAny_take (i := 22) (v := .string s) rfl (by kernel_rfl) (by kernel_rfl) (by kernel_rfl) (fun _ _ _ h => h) (Or.inl ⟨by rfl, fun w => by go_simp⟩) ?_
    refine wpAny_take (i := 23) (v := .int .i64 (k : Int)) rfl (by kernel_rfl) (by kernel_rfl) (by kernel_rfl) (fun _ _ _ h => h) (Or.inl ⟨by rfl, fun w => by go_simp⟩) ?_
    refine wpAny_take (i := 24) (v := .int .i64 (19 + (k : Int))) rfl (by kernel_rfl) (by kernel_rfl) (by kernel_rfl) (fun _ _ _ h => h) (Or.inl ⟨by rfl, fun w => by go_simp⟩) ?_
    refine wpAny_take (i := 25) (v := .string (s.extract 19 (19 + k))) rfl (by kernel_rfl) (by kernel_rfl) (by kernel_rfl) (fun _ _ _ h => h) (Or.inl ⟨by rfl, fun w => by go_simp⟩) ?_
    refine wpAny_take (i := 26) (v := .string s) rfl (by kernel_rfl) (by kernel_rfl) (by kernel_rfl) (fun _ _ _ h => h) (Or.inl ⟨by rfl, fun w => by go_simp⟩) ?_
    refine wpAny_take (i := 27) (v := .int .i64 (k : Int)) rfl (by kernel_rfl) (by kernel_rfl) (by kernel_rfl) (fun _ _ _ h => h) (Or.inl ⟨by rfl, fun w => by go_simp⟩) ?_
    refine wpAny_take (i := 28) (v := .int .i64 (20 + (k : Int))) rfl (by kernel_rfl) (by kernel_rfl) (by kernel_rfl) (fun _ _ _ h => h) (Or.inl ⟨by rfl, fun w => by go_simp⟩) ?_
    refine wpAny_take (i := 29) (v := .string (s.extract (20 + k) s.size)) rfl (by kernel_rfl) (by kernel_rfl) (by kernel_rfl) (fun _ _ _ h => h) (Or.inl ⟨by rfl, fun w => by go_simp⟩) ?_
    refine wpAny_ready (rs := [11, 31]) (by kernel_rfl) (by simp) ?_
    refine AllReady.cons rfl (fun K hK => ?_) ?_
    · go_simp
      go_wp2_with (go_at_call 62; refine (unhide D3 _).mono ?_; rintro e w' ⟨rfl, rfl⟩)
      refine wpAny_ready (rs := [14, 31]) (by kernel_rfl) (by simp) ?_
      refine AllReady.cons rfl (fun K hK => ?_) ?_
      · go_simp
        go_wp2_with (go_at_call 62; refine (unhide D7 _).mono ?_; rintro e w' ⟨rfl, rfl⟩)
        refine wpAny_take (i := 15) (v := .int .i64 ((a7 : Int) - 1)) rfl (by kernel_rfl) (by kernel_rfl) (by kernel_rfl) (fun _ _ _ h => h) (Or.inl ⟨by rfl, fun w => by go_simp⟩) ?_
        refine wpAny_ready (rs := [18, 31]) (by kernel_rfl) (by simp) ?_
        refine AllReady.cons rfl (fun K hK => ?_) ?_
        · go_simp
          go_wp2_with (go_at_call 62; refine (unhide D11 _).mono ?_; rintro e w' ⟨rfl, rfl⟩)
          refine wpAny_take (i := 30) (v := .agg #[.int .i64 (s[0].toNat : Int), .int .i64 (s[1].toNat : Int), .int .i64 (s[2].toNat : Int), .string (s.extract 19 (19 + k)), .int .i64 (a3 : Int), .int .i64 ((a7 : Int) - 1), .int .i64 (a11 : Int), .int .i64 (s[17].toNat : Int), .string (s.extract (20 + k) s.size)]) rfl (by kernel_rfl) (by kernel_rfl) (by kernel_rfl) (fun _ _ _ h => h) (Or.inl ⟨by rfl, fun w => by go_simp⟩) ?_
          refine wpAny_ready (rs := [31]) (by kernel_rfl) (by simp) ?_
          refine AllReady.cons rfl (fun K hK => ?_) AllReady.nil
          go_simp
          refine hK _ _ ?_
          clear hK K
          refine wpAny_ready (rs := [32]) (by kernel_rfl) (by simp) ?_
          refine AllReady.cons rfl (fun K hK => ?_) AllReady.nil
          go_simp
          refine hK _ _ ?_
          clear hK K
          refine wpAny_done (by kernel_rfl) ?_ _
          go_wp2_with fail
          go_meet
          exact ⟨rfl, heap_alloc_new' _, (below_alloc1' W _).drew⟩
        refine AllReady.cons rfl (fun K hK => ?_) ?_
        · go_simp
          refine hK _ _ ?_
          clear hK K
          refine wpAny_ready (rs := [18]) (by kernel_rfl) (by simp) ?_
          refine AllReady.cons rfl (fun K hK => ?_) AllReady.nil
          go_simp
          go_wp2_with (go_at_call 62; refine (unhide D11 _).mono ?_; rintro e w' ⟨rfl, rfl⟩)
          refine wpAny_take (i := 30) (v := .agg #[.int .i64 (s[0].toNat : Int), .int .i64 (s[1].toNat : Int), .int .i64 (s[2].toNat : Int), .string (s.extract 19 (19 + k)), .int .i64 (a3 : Int), .int .i64 ((a7 : Int) - 1), .int .i64 (a11 : Int), .int .i64 (s[17].toNat : Int), .string (s.extract (20 + k) s.size)]) rfl (by kernel_rfl) (by kernel_rfl) (by kernel_rfl) (fun _ _ _ h => h) (Or.inl ⟨by rfl, fun w => by go_simp⟩) ?_
          refine wpAny_ready (rs := [32]) (by kernel_rfl) (by simp) ?_
          refine AllReady.cons rfl (fun K hK => ?_) AllReady.nil
          go_simp
          refine hK _ _ ?_
          clear hK K
          refine wpAny_done (by kernel_rfl) ?_ _
          go_wp2_with fail
          go_meet
          exact ⟨rfl, heap_alloc_new' _, (below_alloc1' W _).drew⟩
        exact AllReady.nil
      refine AllReady.cons rfl (fun K hK => ?_) ?_
      · go_simp
        refine hK _ _ ?_
        clear hK K
        refine wpAny_ready (rs := [14]) (by kernel_rfl) (by simp) ?_
        refine AllReady.cons rfl (fun K hK => ?_) AllReady.nil
        go_simp
        go_wp2_with (go_at_call 62; refine (unhide D7 _).mono ?_; rintro e w' ⟨rfl, rfl⟩)
        refine wpAny_take (i := 15) (v := .int .i64 ((a7 : Int) - 1)) rfl (by kernel_rfl) (by kernel_rfl) (by kernel_rfl) (fun _ _ _ h => h) (Or.inl ⟨by rfl, fun w => by go_simp⟩) ?_
        refine wpAny_ready (rs := [18]) (by kernel_rfl) (by simp) ?_
        refine AllReady.cons rfl (fun K hK => ?_) ?_
        · go_simp
          go_wp2_with (go_at_call 62; refine (unhide D11 _).mono ?_; rintro e w' ⟨rfl, rfl⟩)
          refine wpAny_take (i := 30) (v := .agg #[.int .i64 (s[0].toNat : Int), .int .i64 (s[1].toNat : Int), .int .i64 (s[2].toNat : Int), .string (s.extract 19 (19 + k)), .int .i64 (a3 : Int), .int .i64 ((a7 : Int) - 1), .int .i64 (a11 : Int), .int .i64 (s[17].toNat : Int), .string (s.extract (20 + k) s.size)]) rfl (by kernel_rfl) (by kernel_rfl) (by kernel_rfl) (fun _ _ _ h => h) (Or.inl ⟨by rfl, fun w => by go_simp⟩) ?_
          refine wpAny_ready (rs := [32]) (by kernel_rfl) (by simp) ?_
          refine AllReady.cons rfl (fun K hK => ?_) AllReady.nil
          go_simp
          refine hK _ _ ?_
          clear hK K
          refine wpAny_done (by kernel_rfl) ?_ _
          go_wp2_with fail
          go_meet
          exact ⟨rfl, heap_alloc_new' _, (below_alloc1' W _).drew⟩
        exact AllReady.nil
      exact AllReady.nil
    refine AllReady.cons rfl (fun K hK => ?_) ?_
    · go_simp
      refine hK _ _ ?_
      clear hK K
      refine wpAny_ready (rs := [11]) (by kernel_rfl) (by simp) ?_
      refine AllReady.cons rfl (fun K hK => ?_) AllReady.nil
      go_simp
      go_wp2_with (go_at_call 62; refine (unhide D3 _).mono ?_; rintro e w' ⟨rfl, rfl⟩)
      refine wpAny_ready (rs := [14]) (by kernel_rfl) (by simp) ?_
      refine AllReady.cons rfl (fun K hK => ?_) ?_
      · go_simp
        go_wp2_with (go_at_call 62; refine (unhide D7 _).mono ?_; rintro e w' ⟨rfl, rfl⟩)
        refine wpAny_take (i := 15) (v := .int .i64 ((a7 : Int) - 1)) rfl (by kernel_rfl) (by kernel_rfl) (by kernel_rfl) (fun _ _ _ h => h) (Or.inl ⟨by rfl, fun w => by go_simp⟩) ?_
        refine wpAny_ready (rs := [18]) (by kernel_rfl) (by simp) ?_
        refine AllReady.cons rfl (fun K hK => ?_) ?_
        · go_simp
          go_wp2_with (go_at_call 62; refine (unhide D11 _).mono ?_; rintro e w' ⟨rfl, rfl⟩)
          refine wpAny_take (i := 30) (v := .agg #[.int .i64 (s[0].toNat : Int), .int .i64 (s[1].toNat : Int), .int .i64 (s[2].toNat : Int), .string (s.extract 19 (19 + k)), .int .i64 (a3 : Int), .int .i64 ((a7 : Int) - 1), .int .i64 (a11 : Int), .int .i64 (s[17].toNat : Int), .string (s.extract (20 + k) s.size)]) rfl (by kernel_rfl) (by kernel_rfl) (by kernel_rfl) (fun _ _ _ h => h) (Or.inl ⟨by rfl, fun w => by go_simp⟩) ?_
          refine wpAny_ready (rs := [32]) (by kernel_rfl) (by simp) ?_
          refine AllReady.cons rfl (fun K hK => ?_) AllReady.nil
          go_simp
          refine hK _ _ ?_
          clear hK K
          refine wpAny_done (by kernel_rfl) ?_ _
          go_wp2_with fail
          go_meet
          exact ⟨rfl, heap_alloc_new' _, (below_alloc1' W _).drew⟩
        exact AllReady.nil
      exact AllReady.nil
    exact AllReady.nil
  case rest =>
    obtain ⟨rfl, hh, hbc⟩ := hcut
    have hcW : W.heap.size < wc.heap.size := (Array.getElem?_eq_some_iff.1 hh).1
    have hZ : wc.heap[w.heap.size]? = some (.cells noMsg.cells 23 (0, 0)) := by rw [hbc.block _ (by omega)]; exact unhide HZ
    have hN : wc.heap[w.heap.size + 1]? = some (.cells noMsg.cells 23 (0, 0)) := by rw [hbc.block _ (by omega)]; exact unhide HN
    obtain ⟨c0, c1, c2, c3, c4, c5, c6, c7, c8⟩ := MsgAt.of_heap (m := ⟨(s[0].toNat : Int), (s[1].toNat : Int), (s[2].toNat : Int), s.extract 19 (19 + k), (a3 : Int), (a7 : Int) - 1, (a11 : Int), (s[17].toNat : Int), s.extract (20 + k) s.size⟩) hh
    have hks : (s.extract 19 (19 + k)).size ≤ maxLen := by rw [ByteArray.size_extract]; unfold maxLen; omega
    have HH := hide hh
    clear hh HZ HN d3 d7 d11
    have HZ := hide hZ
    have HN := hide hN
    clear hZ hN
    go_wp2_with fail
    refine (refPack_any ⟨(s[0].toNat : Int), (s[1].toNat : Int), (s[2].toNat : Int), s.extract 19 (19 + k), (a3 : Int), (a7 : Int) - 1, (a11 : Int), (s[17].toNat : Int), s.extract (20 + k) s.size⟩ wc hks).mono ?_
    rintro e w5 ⟨rfl, hb5⟩
    rw [unhide HM]
    have hb5' : Below w.heap.size w w5 := hbW.trans ((hbc.mono (by omega)).trans (hb5.mono (by omega)))
    have hZ5 : w5.heap[w.heap.size]? = some (.cells noMsg.cells 23 (0, 0)) := by rw [hb5.block _ (by omega)]; exact unhide HZ
    have hN5 : w5.heap[w.heap.size + 1]? = some (.cells noMsg.cells 23 (0, 0)) := by rw [hb5.block _ (by omega)]; exact unhide HN
    have hH5 : w5.heap[W.heap.size]? = some (.cells (⟨(s[0].toNat : Int), (s[1].toNat : Int), (s[2].toNat : Int), s.extract 19 (19 + k), (a3 : Int), (a7 : Int) - 1, (a11 : Int), (s[17].toNat : Int), s.extract (20 + k) s.size⟩ : Msg).cells 23 (0, 0)) := by rw [hb5.block _ hcW]; exact unhide HH
    clear c0 c1 c2 c3 c4 c5 c6 c7 c8 HH HZ HN hb5 hbc
    obtain ⟨z0, z1, z2, z3, z4, z5, z6, z7, z8⟩ := MsgAt.of_heap hZ5
    obtain ⟨n0, n1, n2, n3, n4, n5, n6, n7, n8⟩ := MsgAt.of_heap hN5
    obtain ⟨c0, c1, c2, c3, c4, c5, c6, c7, c8⟩ := MsgAt.of_heap hH5
    have hf : ∀ i, w5.frozen? ⟨w.heap.size, i, none⟩ = false := fun i => frozen_row hZ5
    clear hZ5 hN5 hH5
    have hne : w.heap.size ≠ W.heap.size := by omega
    have hne' : W.heap.size ≠ w.heap.size := by omega
    cases hS : soundB (msgOf s (s.extract 19 (19 + k)) (s.extract (20 + k) s.size) h18) with
    | false =>
      have HG : Hid (refGot s (msgOf s (s.extract 19 (19 + k)) (s.extract (20 + k) s.size) h18) = false) := by show _ = _; rw [refGot, hS]; rfl
      have hE : packE (msgOf s (s.extract 19 (19 + k)) (s.extract (20 + k) s.size) h18) = 9 := by rw [packE, hS]; rfl
      clear hS
      rw [hE]
      clear hE HM
      go_wp2
      exact bodyPost_ret (v := .tuple #[.agg #[.int .i64 noMsg.kind, .int .i64 noMsg.frm, .int .i64 noMsg.to, .string noMsg.key, .int .i64 noMsg.serial, .int .i64 noMsg.version, .int .i64 noMsg.age, .int .i64 noMsg.present, .string noMsg.value], .int .i64 9]) (by simp [results, Tryd.results34, go_sem, z0, z1, z2, z3, z4, z5, z6, z7, z8]) rfl ⟨by rw [refM, refE, unhide HG]; rfl, (((((((((hb5'.setCell (Nat.le_refl _) _).setCell (Nat.le_refl _) _).setCell (Nat.le_refl _) _).setCell (Nat.le_refl _) _).setCell (Nat.le_refl _) _).setCell (Nat.le_refl _) _).setCell (Nat.le_refl _) _).setCell (Nat.le_refl _) _).setCell (Nat.le_refl _) _)⟩
    | true =>
      have hE : packE (msgOf s (s.extract 19 (19 + k)) (s.extract (20 + k) s.size) h18) = 0 := by rw [packE, hS]; rfl
      rw [hE]
      clear hE
      cases hT : ((packS (msgOf s (s.extract 19 (19 + k)) (s.extract (20 + k) s.size) h18)).toList == s.toList) with
      | false =>
        have HG : Hid (refGot s (msgOf s (s.extract 19 (19 + k)) (s.extract (20 + k) s.size) h18) = false) := by show _ = _; rw [refGot, hS, hT]; rfl
        clear hS HM
        go_wp2
        exact bodyPost_ret (v := .tuple #[.agg #[.int .i64 noMsg.kind, .int .i64 noMsg.frm, .int .i64 noMsg.to, .string noMsg.key, .int .i64 noMsg.serial, .int .i64 noMsg.version, .int .i64 noMsg.age, .int .i64 noMsg.present, .string noMsg.value], .int .i64 9]) (by simp [results, Tryd.results34, go_sem, z0, z1, z2, z3, z4, z5, z6, z7, z8]) rfl ⟨by rw [refM, refE, unhide HG]; rfl, (((((((((hb5'.setCell (Nat.le_refl _) _).setCell (Nat.le_refl _) _).setCell (Nat.le_refl _) _).setCell (Nat.le_refl _) _).setCell (Nat.le_refl _) _).setCell (Nat.le_refl _) _).setCell (Nat.le_refl _) _).setCell (Nat.le_refl _) _).setCell (Nat.le_refl _) _)⟩
      | true =>
        have HG : Hid (refGot s (msgOf s (s.extract 19 (19 + k)) (s.extract (20 + k) s.size) h18) = true) := by show _ = _; rw [refGot, hS, hT]; rfl
        clear hS
        go_wp2
        exact bodyPost_ret (v := .tuple #[.agg #[.int .i64 (s[0].toNat : Int), .int .i64 (s[1].toNat : Int), .int .i64 (s[2].toNat : Int), .string (s.extract 19 (19 + k)), .int .i64 (a3 : Int), .int .i64 ((a7 : Int) - 1), .int .i64 (a11 : Int), .int .i64 (s[17].toNat : Int), .string (s.extract (20 + k) s.size)], .int .i64 0]) (by simp [results, Tryd.results34, go_sem, z0, z1, z2, z3, z4, z5, z6, z7, z8]) rfl ⟨by rw [refM, refE, unhide HG, if_pos rfl, if_pos rfl, ← unhide HM]; rfl, (((((((((hb5'.setCell (Nat.le_refl _) _).setCell (Nat.le_refl _) _).setCell (Nat.le_refl _) _).setCell (Nat.le_refl _) _).setCell (Nat.le_refl _) _).setCell (Nat.le_refl _) _).setCell (Nat.le_refl _) _).setCell (Nat.le_refl _) _).setCell (Nat.le_refl _) _)⟩

end Go.Proofs.YtpdkojgepagbnaaDoor
