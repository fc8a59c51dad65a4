/-
  A message is sent: it stands last in the net.
  One who asked is refused: a client by an answer, a child by a message.
  One who asked is told: a client by an answer, a child by a message.
  A fetch is over: it is taken out, and who waited is handed out.
  All who wait for a fetch are refused.
-/
import Derived.Test.YtpdkojgepagbnaaDoorJ05
import Derived.Deep.RegionLaw
namespace Go.Proofs.YtpdkojgepagbnaaDoor
set_option maxRecDepth 100000
open Go.RowKit
open Tier (Mes Ans Conf)
attribute [local go_sem ↓] Go.wp_at_zero Go.wp_at_succ

theorem far_cell {W w1 : World} {o : Obj} {row : Option Nat} {a : Addr} {v : Value} (hg : ((W.alloc o).drew).grownBy w1 row) (hc : W.cell? a = some v) (hne : some a.block ≠ row) : w1.cell? a = some v := by
  have T : Turn nothing W (W.alloc o).drew := (Turn.alloc _ _ _).step_drew
  rw [hg.cell_far a (Nat.lt_of_lt_of_le (cell_lt hc) T.size) hne]
  exact T.cell hc id
theorem far_froz {W w1 : World} {o : Obj} {row : Option Nat} {a : Addr} {v : Value} (hg : ((W.alloc o).drew).grownBy w1 row) (hc : W.cell? a = some v) (hf : W.frozen? a = false) (hne : some a.block ≠ row) : w1.frozen? a = false := by
  have T : Turn nothing W (W.alloc o).drew := (Turn.alloc _ _ _).step_drew
  rw [World.frozen?_of_block (hg.block a.block (Nat.lt_of_lt_of_le (cell_lt hc) T.size) hne)]
  exact T.froz hc id hf

theorem infoMes : (Tryd.prog.info? 23).map (fun i => (i.zero, i.size, i.bytes)) = some (some (.agg #[.int .i64 0, .int .i64 0, .int .i64 0, .string ⟨#[]⟩, .int .i64 0, .int .i64 0, .int .i64 0, .int .i64 0, .string ⟨#[]⟩]), 9, 88) := by kernel_rfl
theorem infoAns : (Tryd.prog.info? 56).map (fun i => (i.zero, i.size, i.bytes)) = some (some (.agg #[.int .i64 0, .int .i64 0, .int .i64 0, .int .i64 0, .int .i64 0, .string ⟨#[]⟩, .int .i64 0]), 7, 64) := by kernel_rfl

def mesV (m : Mes) : Value := .agg (mesL m).toArray

set_option maxHeartbeats 2000000 in
theorem send_any (own : Own) (τ bt : Nat) (g : Gh) (s : PS) (m : Mes) (w : World) (h : Lies own τ w bt g s) (hlen : s.net.length < 1000000000000) :
    Calls Tryd.prog 96 #[.pointer (some ⟨bt, 0, none⟩), mesV m] w fun r w' => r = .returned (.tuple #[]) ∧ ∃ own' g', Lies own' τ w' bt g' { s with net := s.net ++ [m] } ∧ Step τ own own' w w' ∧ g.Like g' := by
  obtain ⟨i0, hi, hz0, hz1, hz2⟩ := info_parts infoMes
  unfold mesV
  go_enter Tryd.func96, Tryd.ntmps96
  simp only [mesL]
  go_wp2
  generalize hW : World.alloc _ _ = W0
  have T0 : Turn nothing w W0 := by rw [← hW]; exact (Turn.alloc _ _ _)
  have hsz : W0.heap.size = w.heap.size + 1 := by rw [← hW]; simp
  have x0 : ∃ ty, W0.heap[w.heap.size]? = some (.cells #[.int .i64 m.kind, .int .i64 m.frm, .int .i64 m.to, .string m.key, .int .i64 m.serial, .int .i64 m.ver, .int .i64 m.age, .int .i64 m.pres, .string m.val] ty (0, 0)) := by rw [← hW]; exact ⟨_, new1_0 _ _⟩
  have x0_0 : W0.cell? ⟨w.heap.size, 0, none⟩ = some (.int .i64 m.kind) := by obtain ⟨_, h⟩ := x0; exact cell_of_cells h 0
  have x0_1 : W0.cell? ⟨w.heap.size, 1, none⟩ = some (.int .i64 m.frm) := by obtain ⟨_, h⟩ := x0; exact cell_of_cells h 1
  have x0_2 : W0.cell? ⟨w.heap.size, 2, none⟩ = some (.int .i64 m.to) := by obtain ⟨_, h⟩ := x0; exact cell_of_cells h 2
  have x0_3 : W0.cell? ⟨w.heap.size, 3, none⟩ = some (.string m.key) := by obtain ⟨_, h⟩ := x0; exact cell_of_cells h 3
  have x0_4 : W0.cell? ⟨w.heap.size, 4, none⟩ = some (.int .i64 m.serial) := by obtain ⟨_, h⟩ := x0; exact cell_of_cells h 4
  have x0_5 : W0.cell? ⟨w.heap.size, 5, none⟩ = some (.int .i64 m.ver) := by obtain ⟨_, h⟩ := x0; exact cell_of_cells h 5
  have x0_6 : W0.cell? ⟨w.heap.size, 6, none⟩ = some (.int .i64 m.age) := by obtain ⟨_, h⟩ := x0; exact cell_of_cells h 6
  have x0_7 : W0.cell? ⟨w.heap.size, 7, none⟩ = some (.int .i64 m.pres) := by obtain ⟨_, h⟩ := x0; exact cell_of_cells h 7
  have x0_8 : W0.cell? ⟨w.heap.size, 8, none⟩ = some (.string m.val) := by obtain ⟨_, h⟩ := x0; exact cell_of_cells h 8
  have HL := hide (h.turn T0)
  have hbt : bt < w.heap.size := h.tier.lt
  have c15 : W0.cell? ⟨bt, 15, none⟩ = some g.nv := cell_of_cells (unhide HL).tier.block 15
  have f15 : W0.frozen? ⟨bt, 15, none⟩ = false := frozen_of_cells (unhide HL).tier.block 15
  have hN := hide (unhide HL).net.row
  have hNb : Hid (∀ k, some k = g.nv.ownBlock → k < w.heap.size ∧ k ≠ bt) := fun k hk => ⟨h.net.lt hk.symm, fun e => by have := h.net.mine k hk.symm; rw [e, h.tierO] at this; cases this⟩
  have hlen' : (s.net.map mesL).length < 1000000000000 := by simpa using hlen
  have hne0 : bt ≠ w.heap.size + 1 := by omega
  have hne1 : bt ≠ w.heap.size := by omega
  clear hW
  have HH := hide h
  clear h hlen
  generalize hxs : (s.net.map mesL).flatten = xs at *
  generalize hn : (s.net.map mesL).length = n at *
  have hm1 : n + 1 ≤ maxLen := by unfold maxLen; omega
  have hm2 : (n + 1) * 88 ≤ 140737488355328 := by omega
  go_region_law ((refine step_append_lies _ (by rfl) _ _ _ (by rfl) 0 23 i0 _ 9 88 Tryd.underlying61 hi hz0 hz1 hz2 rfl (by omega) g.nv n xs (by rfl) ((unhide hN).alloc _).drew ⟨w.heap.size + 1, 0, none⟩ 1 1 [.int .i64 m.kind, .int .i64 m.frm, .int .i64 m.to, .string m.key, .int .i64 m.serial, .int .i64 m.ver, .int .i64 m.age, .int .i64 m.pres, .string m.val] (by rfl) (by rfl) (World.news_of_block (cs := #[.int .i64 m.kind, .int .i64 m.frm, .int .i64 m.to, .string m.key, .int .i64 m.serial, .int .i64 m.ver, .int .i64 m.age, .int .i64 m.pres, .string m.val]) (t := 23) (fr := (0, 0)) (hsz ▸ heap_alloc_new W0 _)) (by simp [Value.oneCell']) (by omega) hm1 hm2 (by simp) (w.heap.size + 1 + 1) (by simp [hsz]) ?_; intro gb cap w1 hown1 hgrow hat hlt; have q15 := far_cell hgrow c15 (fun e => (unhide hNb _ e).2 rfl); have q15f := far_froz hgrow c15 f15 (fun e => (unhide hNb _ e).2 rfl)))
  all_goals go_end0
  all_goals subst hn
  all_goals subst hxs
  all_goals obtain ⟨L, S⟩ := ((unhide HL).turn ((Turn.alloc nothing W0 _).step_drew)).sent (m := m) hown1 hgrow (hat.imp id (fun e => by rw [e]; simp [hsz])) hlt
  all_goals exact ⟨rfl, _, _, L, ((Step.of_turn T0).trans (Step.of_turn ((Turn.alloc nothing W0 _).step_drew))).trans S, ⟨rfl, rfl, rfl, rfl, rfl, rfl⟩⟩

end Go.Proofs.YtpdkojgepagbnaaDoor

namespace Go.Proofs.YtpdkojgepagbnaaDoor
set_option maxRecDepth 100000
open Go.RowKit
open Tier (Mes Ans Conf)
attribute [local go_sem ↓] Go.wp_at_zero Go.wp_at_succ

def wtV (x : Wt) : Value := .agg #[.int .i64 x.child, .int .i64 x.serial, .int .i64 x.tag, .int .i64 x.id]
def none8 : ByteArray := ⟨#[]⟩

def PS.refuse (s : PS) (n : Nat) (k : ByteArray) (x : Wt) : PS :=
  if x.child = 0 then { s with answers := s.answers ++ [⟨n, x.id, 2, 0, 0, none8, 0⟩] }
  else { s with net := s.net ++ [⟨4, n, x.child, k, x.serial, 0, 0, 0, none8⟩] }

set_option maxHeartbeats 2000000 in
theorem refuse_client (own : Own) (τ bt : Nat) (g : Gh) (s : PS) (n : Nat) (k : ByteArray) (x : Wt) (w : World) (h : Lies own τ w bt g s) (hlen : s.answers.length < 1000000000000) (hc : x.child = 0) :
    Calls Tryd.prog 90 #[.pointer (some ⟨bt, 0, none⟩), placeV (n, k), wtV x] w fun r w' => r = .returned (.tuple #[]) ∧ ∃ own' g', Lies own' τ w' bt g' { s with answers := s.answers ++ [⟨n, x.id, 2, 0, 0, none8, 0⟩] } ∧ Step τ own own' w w' ∧ g.Like g' := by
  obtain ⟨i0, hi, hz0, hz1, hz2⟩ := info_parts infoAns
  obtain ⟨child, serial, tag, cid⟩ := x
  dsimp only at hc
  subst hc
  unfold placeV wtV
  dsimp only
  have hlen' : (s.answers.map ansL).length < 1000000000000 := by simpa using hlen
  have hbt : bt < w.heap.size := h.tier.lt
  have hNb : Hid (∀ k, some k = g.av.ownBlock → k < w.heap.size ∧ k ≠ bt) := fun k hk => ⟨h.ans.lt hk.symm, fun e => by have := h.ans.mine k hk.symm; rw [e, h.tierO] at this; cases this⟩
  have HH := hide h
  clear h hlen
  go_enter Tryd.func90, Tryd.ntmps90
  go_wp2
  generalize hW : World.alloc _ _ = W0
  have T0 : Turn nothing w W0 := by rw [← hW]; exact (Turn.alloc _ _ _).step_alloc
  have hsz : W0.heap.size = w.heap.size + 1 + 1 := by rw [← hW]; simp
  have x0 : ∃ ty, W0.heap[w.heap.size]? = some (.cells #[.int .i64 (n : Int), .string k] ty (0, 0)) := by rw [← hW]; exact ⟨_, new2_0 _ _ _⟩
  have x0_0 : W0.cell? ⟨w.heap.size, 0, none⟩ = some (.int .i64 (n : Int)) := by obtain ⟨_, h⟩ := x0; exact cell_of_cells h 0
  have x0_1 : W0.cell? ⟨w.heap.size, 1, none⟩ = some (.string k) := by obtain ⟨_, h⟩ := x0; exact cell_of_cells h 1
  have x1 : ∃ ty, W0.heap[w.heap.size + 1]? = some (.cells #[.int .i64 0, .int .i64 serial, .int .i64 tag, .int .i64 cid] ty (0, 0)) := by rw [← hW]; exact ⟨_, new2_1 _ _ _⟩
  have x1_0 : W0.cell? ⟨w.heap.size + 1, 0, none⟩ = some (.int .i64 0) := by obtain ⟨_, h⟩ := x1; exact cell_of_cells h 0
  have x1_1 : W0.cell? ⟨w.heap.size + 1, 1, none⟩ = some (.int .i64 serial) := by obtain ⟨_, h⟩ := x1; exact cell_of_cells h 1
  have x1_2 : W0.cell? ⟨w.heap.size + 1, 2, none⟩ = some (.int .i64 tag) := by obtain ⟨_, h⟩ := x1; exact cell_of_cells h 2
  have x1_3 : W0.cell? ⟨w.heap.size + 1, 3, none⟩ = some (.int .i64 cid) := by obtain ⟨_, h⟩ := x1; exact cell_of_cells h 3
  have HL := hide ((unhide HH).turn T0)
  have c16 : W0.cell? ⟨bt, 16, none⟩ = some g.av := cell_of_cells (unhide HL).tier.block 16
  have f16 : W0.frozen? ⟨bt, 16, none⟩ = false := frozen_of_cells (unhide HL).tier.block 16
  have hN := hide (unhide HL).ans.row
  have c16a : ∀ o, (W0.alloc o).cell? ⟨bt, 16, none⟩ = some g.av := fun o => (Turn.alloc nothing W0 o).cell c16 id
  have hne0 : bt ≠ w.heap.size + 1 + 1 := by omega
  clear hW
  generalize hxs : (s.answers.map ansL).flatten = xs at *
  generalize hn : (s.answers.map ansL).length = m at *
  have hm1 : m + 1 ≤ maxLen := by unfold maxLen; omega
  have hm2 : (m + 1) * 64 ≤ 140737488355328 := by omega
  have HS : ∀ w', Turn (fun k => k = bt ∨ some k = g.av.ownBlock) W0 w' → Turn (fun k => k = bt ∨ some k = g.av.ownBlock) W0 w' ∧ w'.cell? ⟨w.heap.size, 0, none⟩ = some (.int .i64 (n : Int)) ∧ w'.cell? ⟨w.heap.size, 1, none⟩ = some (.string k) ∧ w'.cell? ⟨w.heap.size + 1, 0, none⟩ = some (.int .i64 0) ∧ w'.cell? ⟨w.heap.size + 1, 1, none⟩ = some (.int .i64 serial) ∧ w'.cell? ⟨w.heap.size + 1, 2, none⟩ = some (.int .i64 tag) ∧ w'.cell? ⟨w.heap.size + 1, 3, none⟩ = some (.int .i64 cid) := fun w' T => ⟨T, T.cell x0_0 (fun h => h.elim (fun e => absurd e (by dsimp only; omega)) (fun e => absurd (unhide hNb _ e).1 (by dsimp only; omega))), T.cell x0_1 (fun h => h.elim (fun e => absurd e (by dsimp only; omega)) (fun e => absurd (unhide hNb _ e).1 (by dsimp only; omega))), T.cell x1_0 (fun h => h.elim (fun e => absurd e (by dsimp only; omega)) (fun e => absurd (unhide hNb _ e).1 (by dsimp only; omega))), T.cell x1_1 (fun h => h.elim (fun e => absurd e (by dsimp only; omega)) (fun e => absurd (unhide hNb _ e).1 (by dsimp only; omega))), T.cell x1_2 (fun h => h.elim (fun e => absurd e (by dsimp only; omega)) (fun e => absurd (unhide hNb _ e).1 (by dsimp only; omega))), T.cell x1_3 (fun h => h.elim (fun e => absurd e (by dsimp only; omega)) (fun e => absurd (unhide hNb _ e).1 (by dsimp only; omega)))⟩
  refine wp_region_noPanic ?_
  refine wp_region_held_drew (S := fun w' => Turn (fun k => k = bt ∨ some k = g.av.ownBlock) W0 w' ∧ w'.cell? ⟨w.heap.size, 0, none⟩ = some (.int .i64 (n : Int)) ∧ w'.cell? ⟨w.heap.size, 1, none⟩ = some (.string k) ∧ w'.cell? ⟨w.heap.size + 1, 0, none⟩ = some (.int .i64 0) ∧ w'.cell? ⟨w.heap.size + 1, 1, none⟩ = some (.int .i64 serial) ∧ w'.cell? ⟨w.heap.size + 1, 2, none⟩ = some (.int .i64 tag) ∧ w'.cell? ⟨w.heap.size + 1, 3, none⟩ = some (.int .i64 cid)) (by kernel_rfl) (HS _ ((Turn.refl _ _).step_drew)) (fun hHeld => ?_)
  refine wpAnyH_take (i := 0) (v := ?_) rfl (by kernel_rfl) (by kernel_rfl) (by kernel_rfl) (fun _ _ _ h => h) (Or.inl ⟨by rfl, ?hy⟩) (by assumption) ?_
  case hy => intro w hSw; (try dsimp only at hSw); go_simp; (try with_reducible rfl)
  (try go_frame)
  refine wpAnyH_take (i := 1) (v := ?_) rfl (by kernel_rfl) (by kernel_rfl) (by kernel_rfl) (fun _ _ _ h => h) (Or.inl ⟨by rfl, ?hy⟩) (by assumption) ?_
  case hy => intro w hSw; (try dsimp only at hSw); go_simp; (try with_reducible rfl)
  (try go_frame)
  refine wpAnyH_take (i := 2) (v := ?_) rfl (by kernel_rfl) (by kernel_rfl) (by kernel_rfl) (fun _ _ _ h => h) (Or.inl ⟨by rfl, ?hy⟩) (by assumption) ?_
  case hy => intro w hSw; (try dsimp only at hSw); go_simp; (try with_reducible rfl)
  (try go_frame)
  refine wpAnyH_take (i := 3) (v := ?_) rfl (by kernel_rfl) (by kernel_rfl) (by kernel_rfl) (fun _ _ _ h => h) (Or.inl ⟨by rfl, ?hy⟩) (by assumption) ?_
  case hy => intro w hSw; (try dsimp only at hSw); go_simp; (try with_reducible rfl)
  (try go_frame)
  refine wpAnyH_take (i := 5) (v := ?_) rfl (by kernel_rfl) (by kernel_rfl) (by kernel_rfl) (fun _ _ _ h => h) (Or.inl ⟨by rfl, ?hy⟩) (by assumption) ?_
  case hy => intro w hSw; (try dsimp only at hSw); go_simp; (try with_reducible rfl)
  (try go_frame)
  refine wpAnyH_take (i := 6) (v := ?_) rfl (by kernel_rfl) (by kernel_rfl) (by kernel_rfl) (fun _ _ _ h => h) (Or.inl ⟨by rfl, ?hy⟩) (by assumption) ?_
  case hy => intro w hSw; (try dsimp only at hSw); go_simp; (try with_reducible rfl)
  (try go_frame)
  refine wpAnyH_take (i := 7) (v := ?_) rfl (by kernel_rfl) (by kernel_rfl) (by kernel_rfl) (fun _ _ _ h => h) (Or.inl ⟨by rfl, ?hy⟩) (by assumption) ?_
  case hy => intro w hSw; (try dsimp only at hSw); go_simp; (try with_reducible rfl)
  (try go_frame)
  refine wpAnyH_take (i := 8) (v := ?_) rfl (by kernel_rfl) (by kernel_rfl) (by kernel_rfl) (fun _ _ _ h => h) (Or.inl ⟨by rfl, ?hy⟩) (by assumption) ?_
  case hy => intro w hSw; (try dsimp only at hSw); go_simp; (try with_reducible rfl)
  (try go_frame)
  refine wpAnyH_take (i := 9) (v := ?_) rfl (by kernel_rfl) (by kernel_rfl) (by kernel_rfl) (fun _ _ _ h => h) (Or.inl ⟨by rfl, ?hy⟩) (by assumption) ?_
  case hy => intro w hSw; (try dsimp only at hSw); go_simp; (try with_reducible rfl)
  (try go_frame)
  refine wpAnyH_ready (rs := [4, 10]) (by kernel_rfl) (by simp) ?_
  refine AllReadyH.cons rfl (fun K hK => ?_) (AllReadyH.cons rfl (fun K hK => ?_) AllReadyH.nil)
  · go_simp
    refine hK.out _ _ (HS _ ((Turn.refl _ _).step_drew)) (fun hHeld => ?_)
    clear hK K
    refine wpAnyH_ready (rs := [10]) (by kernel_rfl) (by simp) ?_
    refine AllReadyH.cons rfl (fun K hK => ?_) AllReadyH.nil
    go_simp
    refine hK.out _ _ (HS _ ((Turn.refl _ _).step_alloc.step_drew)) (fun hHeld => ?_)
    clear hK K
    refine wpAnyH_ready (rs := [11]) (by kernel_rfl) (by simp) ?_
    refine AllReadyH.cons rfl (fun K hK => ?_) AllReadyH.nil
    refine step_append_lies _ (by rfl) _ _ _ (by rfl) 0 56 i0 _ 7 64 Tryd.underlying53 hi hz0 hz1 hz2 rfl (by omega) g.av m xs (by rfl) ((unhide hN).alloc _).drew ⟨w.heap.size + 1 + 1, 0, none⟩ 1 1 [.int .i64 (n : Int), .int .i64 cid, .int .i64 2, .int .i64 0, .int .i64 0, .string ⟨#[]⟩, .int .i64 0] (by rfl) (by rfl) (World.news_of_block (cs := #[.int .i64 (n : Int), .int .i64 cid, .int .i64 2, .int .i64 0, .int .i64 0, .string ⟨#[]⟩, .int .i64 0]) (t := 56) (fr := (0, 0)) (hsz ▸ heap_alloc_new W0 _)) (by simp [Value.oneCell']) (by omega) hm1 hm2 (by simp) (w.heap.size + 1 + 1 + 1) (by simp [hsz]) ?_; intro gb cap w1 hown1 hgrow hat hlt; have q16 := far_cell hgrow c16 (fun e => (unhide hNb _ e).2 rfl); have q16f := far_froz hgrow c16 f16 (fun e => (unhide hNb _ e).2 rfl)
    refine hK.out _ _ (HS _ (((Turn.refl _ _).step_alloc.step_drew).step_turn (Turn.grown hgrow) (fun _ _ h => Or.inr h))) (fun hHeld => ?_)
    clear hK K
    refine wpAnyH_take (i := 12) (v := ?_) rfl (by kernel_rfl) (by kernel_rfl) (by kernel_rfl) (fun _ _ _ h => h) (Or.inl ⟨by rfl, ?hy⟩) (by assumption) ?_
    case hy => intro w hSw; (try dsimp only at hSw); go_simp; (try with_reducible rfl)
    (try go_frame)
    refine wpAnyH_take (i := 13) (v := ?_) rfl (by kernel_rfl) (by kernel_rfl) (by kernel_rfl) (fun _ _ _ h => h) (Or.inl ⟨by rfl, ?hy⟩) (by assumption) ?_
    case hy => intro w hSw; (try dsimp only at hSw); go_simp; (try with_reducible rfl)
    (try go_frame)
    refine wpAnyH_ready (rs := [14]) (by kernel_rfl) (by simp) ?_
    refine AllReadyH.cons rfl (fun K hK => ?_) AllReadyH.nil
    go_simp
    refine hK.out _ _ (HS _ ((((Turn.refl _ _).step_alloc.step_drew).step_turn (Turn.grown hgrow) (fun _ _ h => Or.inr h)).step_set (Or.inr (Or.inl rfl)))) (fun hHeld => ?_)
    clear hK K
    refine wpAnyH_done (by kernel_rfl) ?_ _
    refine NoPanic.normal ?_
    go_split_ands
    clear HS
    go_wp2
    subst hn
    subst hxs
    obtain ⟨L, S⟩ := ((unhide HL).turn ((Turn.alloc nothing W0 _).step_drew)).gave (m := ⟨n, cid, 2, 0, 0, none8, 0⟩) hown1 hgrow (hat.imp id (fun e => by rw [e]; simp [hsz])) hlt
    exact bodyPost_ret (v := .tuple #[]) (by simp [results, Tryd.results90, go_sem]) rfl ⟨rfl, _, _, L, ((Step.of_turn T0).trans (Step.of_turn ((Turn.alloc nothing W0 _).step_drew))).trans S, ⟨rfl, rfl, rfl, rfl, rfl, rfl⟩⟩
  · go_simp
    refine hK.out _ _ (HS _ ((Turn.refl _ _).step_alloc.step_drew)) (fun hHeld => ?_)
    clear hK K
    refine wpAnyH_ready (rs := [4]) (by kernel_rfl) (by simp) ?_
    refine AllReadyH.cons rfl (fun K hK => ?_) AllReadyH.nil
    go_simp
    refine hK.out _ _ (HS _ ((Turn.refl _ _).step_alloc.step_drew)) (fun hHeld => ?_)
    clear hK K
    refine wpAnyH_ready (rs := [11]) (by kernel_rfl) (by simp) ?_
    refine AllReadyH.cons rfl (fun K hK => ?_) AllReadyH.nil
    refine step_append_lies _ (by rfl) _ _ _ (by rfl) 0 56 i0 _ 7 64 Tryd.underlying53 hi hz0 hz1 hz2 rfl (by omega) g.av m xs (by rfl) ((unhide hN).alloc _).drew ⟨w.heap.size + 1 + 1, 0, none⟩ 1 1 [.int .i64 (n : Int), .int .i64 cid, .int .i64 2, .int .i64 0, .int .i64 0, .string ⟨#[]⟩, .int .i64 0] (by rfl) (by rfl) (World.news_of_block (cs := #[.int .i64 (n : Int), .int .i64 cid, .int .i64 2, .int .i64 0, .int .i64 0, .string ⟨#[]⟩, .int .i64 0]) (t := 56) (fr := (0, 0)) (hsz ▸ heap_alloc_new W0 _)) (by simp [Value.oneCell']) (by omega) hm1 hm2 (by simp) (w.heap.size + 1 + 1 + 1) (by simp [hsz]) ?_; intro gb cap w1 hown1 hgrow hat hlt; have q16 := far_cell hgrow c16 (fun e => (unhide hNb _ e).2 rfl); have q16f := far_froz hgrow c16 f16 (fun e => (unhide hNb _ e).2 rfl)
    refine hK.out _ _ (HS _ (((Turn.refl _ _).step_alloc.step_drew).step_turn (Turn.grown hgrow) (fun _ _ h => Or.inr h))) (fun hHeld => ?_)
    clear hK K
    refine wpAnyH_take (i := 12) (v := ?_) rfl (by kernel_rfl) (by kernel_rfl) (by kernel_rfl) (fun _ _ _ h => h) (Or.inl ⟨by rfl, ?hy⟩) (by assumption) ?_
    case hy => intro w hSw; (try dsimp only at hSw); go_simp; (try with_reducible rfl)
    (try go_frame)
    refine wpAnyH_take (i := 13) (v := ?_) rfl (by kernel_rfl) (by kernel_rfl) (by kernel_rfl) (fun _ _ _ h => h) (Or.inl ⟨by rfl, ?hy⟩) (by assumption) ?_
    case hy => intro w hSw; (try dsimp only at hSw); go_simp; (try with_reducible rfl)
    (try go_frame)
    refine wpAnyH_ready (rs := [14]) (by kernel_rfl) (by simp) ?_
    refine AllReadyH.cons rfl (fun K hK => ?_) AllReadyH.nil
    go_simp
    refine hK.out _ _ (HS _ ((((Turn.refl _ _).step_alloc.step_drew).step_turn (Turn.grown hgrow) (fun _ _ h => Or.inr h)).step_set (Or.inr (Or.inl rfl)))) (fun hHeld => ?_)
    clear hK K
    refine wpAnyH_done (by kernel_rfl) ?_ _
    refine NoPanic.normal ?_
    go_split_ands
    clear HS
    go_wp2
    subst hn
    subst hxs
    obtain ⟨L, S⟩ := ((unhide HL).turn ((Turn.alloc nothing W0 _).step_drew)).gave (m := ⟨n, cid, 2, 0, 0, none8, 0⟩) hown1 hgrow (hat.imp id (fun e => by rw [e]; simp [hsz])) hlt
    exact bodyPost_ret (v := .tuple #[]) (by simp [results, Tryd.results90, go_sem]) rfl ⟨rfl, _, _, L, ((Step.of_turn T0).trans (Step.of_turn ((Turn.alloc nothing W0 _).step_drew))).trans S, ⟨rfl, rfl, rfl, rfl, rfl, rfl⟩⟩

set_option maxHeartbeats 2000000 in
theorem refuse_child (own : Own) (τ bt : Nat) (g : Gh) (s : PS) (n : Nat) (k : ByteArray) (x : Wt) (w : World) (h : Lies own τ w bt g s) (hlen : s.net.length < 1000000000000) (hc : x.child ≠ 0) :
    Calls Tryd.prog 90 #[.pointer (some ⟨bt, 0, none⟩), placeV (n, k), wtV x] w fun r w' => r = .returned (.tuple #[]) ∧ ∃ own' g', Lies own' τ w' bt g' { s with net := s.net ++ [⟨4, n, x.child, k, x.serial, 0, 0, 0, none8⟩] } ∧ Step τ own own' w w' ∧ g.Like g' := by
  obtain ⟨child, serial, tag, cid⟩ := x
  dsimp only at hc ⊢
  unfold placeV wtV
  dsimp only
  have HH := hide h
  clear h
  have HN := hide hlen
  clear hlen
  go_enter Tryd.func90, Tryd.ntmps90
  go_wp2_with fail
  generalize hW : World.alloc _ _ = W0
  have T0 : Turn nothing w W0 := by rw [← hW]; exact (Turn.alloc _ _ _).step_alloc
  refine (send_any own τ bt g s ⟨4, n, child, k, serial, 0, 0, 0, none8⟩ W0 ((unhide HH).turn T0) (unhide HN)).mono ?_
  rintro e w1 ⟨rfl, own', g', L, S, GL⟩
  clear hW
  have HL := hide (And.intro L (And.intro ((Step.of_turn T0).trans S) GL))
  clear L S T0 GL
  go_wp2
  go_end0
  exact ⟨rfl, own', g', (unhide HL).1, (unhide HL).2.1, (unhide HL).2.2⟩

theorem refuse_any (own : Own) (τ bt : Nat) (g : Gh) (s : PS) (n : Nat) (k : ByteArray) (x : Wt) (w : World) (h : Lies own τ w bt g s) (hl1 : s.net.length < 1000000000000) (hl2 : s.answers.length < 1000000000000) :
    Calls Tryd.prog 90 #[.pointer (some ⟨bt, 0, none⟩), placeV (n, k), wtV x] w fun r w' => r = .returned (.tuple #[]) ∧ ∃ own' g', Lies own' τ w' bt g' (s.refuse n k x) ∧ Step τ own own' w w' ∧ g.Like g' := by
  by_cases hc : x.child = 0
  · rw [PS.refuse, if_pos hc]; exact refuse_client own τ bt g s n k x w h hl2 hc
  · rw [PS.refuse, if_neg hc]; exact refuse_child own τ bt g s n k x w h hl1 hc

end Go.Proofs.YtpdkojgepagbnaaDoor

namespace Go.Proofs.YtpdkojgepagbnaaDoor
set_option maxRecDepth 100000
open Go.RowKit
open Tier (Mes Ans Conf)
attribute [local go_sem ↓] Go.wp_at_zero Go.wp_at_succ

def PS.tell (s : PS) (n : Nat) (x : Wt) (e : See) : PS :=
  if x.child = 0 then { s with answers := s.answers ++ [⟨n, x.id, 1, e.ver, e.pres, e.val, e.age⟩] }
  else if x.tag = e.ver then { s with net := s.net ++ [⟨3, n, x.child, e.key, x.serial, e.ver, e.age, 0, none8⟩] }
  else { s with net := s.net ++ [⟨2, n, x.child, e.key, x.serial, e.ver, e.age, e.pres, e.val⟩] }

set_option maxHeartbeats 4000000 in
theorem tell_client (own : Own) (τ bt : Nat) (g : Gh) (s : PS) (n : Nat) (x : Wt) (e : See) (w : World) (h : Lies own τ w bt g s) (hlen : s.answers.length < 1000000000000) (hc : x.child = 0) :
    Calls Tryd.prog 86 #[.pointer (some ⟨bt, 0, none⟩), .int .i64 (n : Int), wtV x, seeV e] w fun r w' => r = .returned (.tuple #[]) ∧ ∃ own' g', Lies own' τ w' bt g' { s with answers := s.answers ++ [⟨n, x.id, 1, e.ver, e.pres, e.val, e.age⟩] } ∧ Step τ own own' w w' ∧ g.Like g' := by
  obtain ⟨i0, hi, hz0, hz1, hz2⟩ := info_parts infoAns
  obtain ⟨child, serial, tag, cid⟩ := x
  obtain ⟨key, ver, pres, val, age⟩ := e
  dsimp only at hc ⊢
  subst hc
  unfold wtV seeV
  dsimp only
  have hlen' : (s.answers.map ansL).length < 1000000000000 := by simpa using hlen
  have hbt : bt < w.heap.size := h.tier.lt
  have hNb : Hid (∀ k, some k = g.av.ownBlock → k < w.heap.size ∧ k ≠ bt) := fun k hk => ⟨h.ans.lt hk.symm, fun e => by have := h.ans.mine k hk.symm; rw [e, h.tierO] at this; cases this⟩
  have HH := hide h
  clear h hlen
  go_enter Tryd.func86, Tryd.ntmps86
  go_wp2
  generalize hW : World.alloc _ _ = W0
  have T0 : Turn nothing w W0 := by rw [← hW]; exact (Turn.alloc _ _ _).step_alloc
  have hsz : W0.heap.size = w.heap.size + 1 + 1 := by rw [← hW]; simp
  have x0 : ∃ ty, W0.heap[w.heap.size]? = some (.cells #[.int .i64 0, .int .i64 serial, .int .i64 tag, .int .i64 cid] ty (0, 0)) := by rw [← hW]; exact ⟨_, new2_0 _ _ _⟩
  have x0_0 : W0.cell? ⟨w.heap.size, 0, none⟩ = some (.int .i64 0) := by obtain ⟨_, h⟩ := x0; exact cell_of_cells h 0
  have x0_1 : W0.cell? ⟨w.heap.size, 1, none⟩ = some (.int .i64 serial) := by obtain ⟨_, h⟩ := x0; exact cell_of_cells h 1
  have x0_2 : W0.cell? ⟨w.heap.size, 2, none⟩ = some (.int .i64 tag) := by obtain ⟨_, h⟩ := x0; exact cell_of_cells h 2
  have x0_3 : W0.cell? ⟨w.heap.size, 3, none⟩ = some (.int .i64 cid) := by obtain ⟨_, h⟩ := x0; exact cell_of_cells h 3
  have x1 : ∃ ty, W0.heap[w.heap.size + 1]? = some (.cells #[.string key, .int .i64 ver, .int .i64 pres, .string val, .int .i64 age] ty (0, 0)) := by rw [← hW]; exact ⟨_, new2_1 _ _ _⟩
  have x1_0 : W0.cell? ⟨w.heap.size + 1, 0, none⟩ = some (.string key) := by obtain ⟨_, h⟩ := x1; exact cell_of_cells h 0
  have x1_1 : W0.cell? ⟨w.heap.size + 1, 1, none⟩ = some (.int .i64 ver) := by obtain ⟨_, h⟩ := x1; exact cell_of_cells h 1
  have x1_2 : W0.cell? ⟨w.heap.size + 1, 2, none⟩ = some (.int .i64 pres) := by obtain ⟨_, h⟩ := x1; exact cell_of_cells h 2
  have x1_3 : W0.cell? ⟨w.heap.size + 1, 3, none⟩ = some (.string val) := by obtain ⟨_, h⟩ := x1; exact cell_of_cells h 3
  have x1_4 : W0.cell? ⟨w.heap.size + 1, 4, none⟩ = some (.int .i64 age) := by obtain ⟨_, h⟩ := x1; exact cell_of_cells h 4
  have HL := hide ((unhide HH).turn T0)
  have c16 : W0.cell? ⟨bt, 16, none⟩ = some g.av := cell_of_cells (unhide HL).tier.block 16
  have f16 : W0.frozen? ⟨bt, 16, none⟩ = false := frozen_of_cells (unhide HL).tier.block 16
  have hN := hide (unhide HL).ans.row
  have c16a : ∀ o, (W0.alloc o).cell? ⟨bt, 16, none⟩ = some g.av := fun o => (Turn.alloc nothing W0 o).cell c16 id
  have hne0 : bt ≠ w.heap.size + 1 + 1 := by omega
  clear hW
  generalize hxs : (s.answers.map ansL).flatten = xs at *
  generalize hn : (s.answers.map ansL).length = m at *
  have hm1 : m + 1 ≤ maxLen := by unfold maxLen; omega
  have hm2 : (m + 1) * 64 ≤ 140737488355328 := by omega
  have HS : ∀ w', Turn (fun k => k = bt ∨ some k = g.av.ownBlock) W0 w' → Turn (fun k => k = bt ∨ some k = g.av.ownBlock) W0 w' ∧ w'.cell? ⟨w.heap.size, 0, none⟩ = some (.int .i64 0) ∧ w'.cell? ⟨w.heap.size, 1, none⟩ = some (.int .i64 serial) ∧ w'.cell? ⟨w.heap.size, 2, none⟩ = some (.int .i64 tag) ∧ w'.cell? ⟨w.heap.size, 3, none⟩ = some (.int .i64 cid) ∧ w'.cell? ⟨w.heap.size + 1, 0, none⟩ = some (.string key) ∧ w'.cell? ⟨w.heap.size + 1, 1, none⟩ = some (.int .i64 ver) ∧ w'.cell? ⟨w.heap.size + 1, 2, none⟩ = some (.int .i64 pres) ∧ w'.cell? ⟨w.heap.size + 1, 3, none⟩ = some (.string val) ∧ w'.cell? ⟨w.heap.size + 1, 4, none⟩ = some (.int .i64 age) := fun w' T => ⟨T, T.cell x0_0 (fun h => h.elim (fun e => absurd e (by dsimp only; omega)) (fun e => absurd (unhide hNb _ e).1 (by dsimp only; omega))), T.cell x0_1 (fun h => h.elim (fun e => absurd e (by dsimp only; omega)) (fun e => absurd (unhide hNb _ e).1 (by dsimp only; omega))), T.cell x0_2 (fun h => h.elim (fun e => absurd e (by dsimp only; omega)) (fun e => absurd (unhide hNb _ e).1 (by dsimp only; omega))), T.cell x0_3 (fun h => h.elim (fun e => absurd e (by dsimp only; omega)) (fun e => absurd (unhide hNb _ e).1 (by dsimp only; omega))), T.cell x1_0 (fun h => h.elim (fun e => absurd e (by dsimp only; omega)) (fun e => absurd (unhide hNb _ e).1 (by dsimp only; omega))), T.cell x1_1 (fun h => h.elim (fun e => absurd e (by dsimp only; omega)) (fun e => absurd (unhide hNb _ e).1 (by dsimp only; omega))), T.cell x1_2 (fun h => h.elim (fun e => absurd e (by dsimp only; omega)) (fun e => absurd (unhide hNb _ e).1 (by dsimp only; omega))), T.cell x1_3 (fun h => h.elim (fun e => absurd e (by dsimp only; omega)) (fun e => absurd (unhide hNb _ e).1 (by dsimp only; omega))), T.cell x1_4 (fun h => h.elim (fun e => absurd e (by dsimp only; omega)) (fun e => absurd (unhide hNb _ e).1 (by dsimp only; omega)))⟩
  refine wp_region_noPanic ?_
  refine wp_region_held_drew (S := fun w' => Turn (fun k => k = bt ∨ some k = g.av.ownBlock) W0 w' ∧ w'.cell? ⟨w.heap.size, 0, none⟩ = some (.int .i64 0) ∧ w'.cell? ⟨w.heap.size, 1, none⟩ = some (.int .i64 serial) ∧ w'.cell? ⟨w.heap.size, 2, none⟩ = some (.int .i64 tag) ∧ w'.cell? ⟨w.heap.size, 3, none⟩ = some (.int .i64 cid) ∧ w'.cell? ⟨w.heap.size + 1, 0, none⟩ = some (.string key) ∧ w'.cell? ⟨w.heap.size + 1, 1, none⟩ = some (.int .i64 ver) ∧ w'.cell? ⟨w.heap.size + 1, 2, none⟩ = some (.int .i64 pres) ∧ w'.cell? ⟨w.heap.size + 1, 3, none⟩ = some (.string val) ∧ w'.cell? ⟨w.heap.size + 1, 4, none⟩ = some (.int .i64 age)) (by kernel_rfl) (HS _ ((Turn.refl _ _).step_drew)) (fun hHeld => ?_)
  refine wpAnyH_take (i := 0) (v := ?_) rfl (by kernel_rfl) (by kernel_rfl) (by kernel_rfl) (fun _ _ _ h => h) (Or.inl ⟨by rfl, ?hy⟩) (by assumption) ?_
  case hy => intro w hSw; (try dsimp only at hSw); go_simp; (try with_reducible rfl)
  (try go_frame)
  refine wpAnyH_take (i := 1) (v := ?_) rfl (by kernel_rfl) (by kernel_rfl) (by kernel_rfl) (fun _ _ _ h => h) (Or.inl ⟨by rfl, ?hy⟩) (by assumption) ?_
  case hy => intro w hSw; (try dsimp only at hSw); go_simp; (try with_reducible rfl)
  (try go_frame)
  refine wpAnyH_take (i := 2) (v := ?_) rfl (by kernel_rfl) (by kernel_rfl) (by kernel_rfl) (fun _ _ _ h => h) (Or.inl ⟨by rfl, ?hy⟩) (by assumption) ?_
  case hy => intro w hSw; (try dsimp only at hSw); go_simp; (try with_reducible rfl)
  (try go_frame)
  refine wpAnyH_take (i := 3) (v := ?_) rfl (by kernel_rfl) (by kernel_rfl) (by kernel_rfl) (fun _ _ _ h => h) (Or.inl ⟨by rfl, ?hy⟩) (by assumption) ?_
  case hy => intro w hSw; (try dsimp only at hSw); go_simp; (try with_reducible rfl)
  (try go_frame)
  refine wpAnyH_take (i := 5) (v := ?_) rfl (by kernel_rfl) (by kernel_rfl) (by kernel_rfl) (fun _ _ _ h => h) (Or.inl ⟨by rfl, ?hy⟩) (by assumption) ?_
  case hy => intro w hSw; (try dsimp only at hSw); go_simp; (try with_reducible rfl)
  (try go_frame)
  refine wpAnyH_take (i := 6) (v := ?_) rfl (by kernel_rfl) (by kernel_rfl) (by kernel_rfl) (fun _ _ _ h => h) (Or.inl ⟨by rfl, ?hy⟩) (by assumption) ?_
  case hy => intro w hSw; (try dsimp only at hSw); go_simp; (try with_reducible rfl)
  (try go_frame)
  refine wpAnyH_take (i := 7) (v := ?_) rfl (by kernel_rfl) (by kernel_rfl) (by kernel_rfl) (fun _ _ _ h => h) (Or.inl ⟨by rfl, ?hy⟩) (by assumption) ?_
  case hy => intro w hSw; (try dsimp only at hSw); go_simp; (try with_reducible rfl)
  (try go_frame)
  refine wpAnyH_take (i := 8) (v := ?_) rfl (by kernel_rfl) (by kernel_rfl) (by kernel_rfl) (fun _ _ _ h => h) (Or.inl ⟨by rfl, ?hy⟩) (by assumption) ?_
  case hy => intro w hSw; (try dsimp only at hSw); go_simp; (try with_reducible rfl)
  (try go_frame)
  refine wpAnyH_take (i := 9) (v := ?_) rfl (by kernel_rfl) (by kernel_rfl) (by kernel_rfl) (fun _ _ _ h => h) (Or.inl ⟨by rfl, ?hy⟩) (by assumption) ?_
  case hy => intro w hSw; (try dsimp only at hSw); go_simp; (try with_reducible rfl)
  (try go_frame)
  refine wpAnyH_take (i := 10) (v := ?_) rfl (by kernel_rfl) (by kernel_rfl) (by kernel_rfl) (fun _ _ _ h => h) (Or.inl ⟨by rfl, ?hy⟩) (by assumption) ?_
  case hy => intro w hSw; (try dsimp only at hSw); go_simp; (try with_reducible rfl)
  (try go_frame)
  refine wpAnyH_take (i := 11) (v := ?_) rfl (by kernel_rfl) (by kernel_rfl) (by kernel_rfl) (fun _ _ _ h => h) (Or.inl ⟨by rfl, ?hy⟩) (by assumption) ?_
  case hy => intro w hSw; (try dsimp only at hSw); go_simp; (try with_reducible rfl)
  (try go_frame)
  refine wpAnyH_take (i := 12) (v := ?_) rfl (by kernel_rfl) (by kernel_rfl) (by kernel_rfl) (fun _ _ _ h => h) (Or.inl ⟨by rfl, ?hy⟩) (by assumption) ?_
  case hy => intro w hSw; (try dsimp only at hSw); go_simp; (try with_reducible rfl)
  (try go_frame)
  refine wpAnyH_take (i := 13) (v := ?_) rfl (by kernel_rfl) (by kernel_rfl) (by kernel_rfl) (fun _ _ _ h => h) (Or.inl ⟨by rfl, ?hy⟩) (by assumption) ?_
  case hy => intro w hSw; (try dsimp only at hSw); go_simp; (try with_reducible rfl)
  (try go_frame)
  refine wpAnyH_take (i := 14) (v := ?_) rfl (by kernel_rfl) (by kernel_rfl) (by kernel_rfl) (fun _ _ _ h => h) (Or.inl ⟨by rfl, ?hy⟩) (by assumption) ?_
  case hy => intro w hSw; (try dsimp only at hSw); go_simp; (try with_reducible rfl)
  (try go_frame)
  refine wpAnyH_take (i := 15) (v := ?_) rfl (by kernel_rfl) (by kernel_rfl) (by kernel_rfl) (fun _ _ _ h => h) (Or.inl ⟨by rfl, ?hy⟩) (by assumption) ?_
  case hy => intro w hSw; (try dsimp only at hSw); go_simp; (try with_reducible rfl)
  (try go_frame)
  refine wpAnyH_take (i := 16) (v := ?_) rfl (by kernel_rfl) (by kernel_rfl) (by kernel_rfl) (fun _ _ _ h => h) (Or.inl ⟨by rfl, ?hy⟩) (by assumption) ?_
  case hy => intro w hSw; (try dsimp only at hSw); go_simp; (try with_reducible rfl)
  (try go_frame)
  refine wpAnyH_ready (rs := [4, 17]) (by kernel_rfl) (by simp) ?_
  refine AllReadyH.cons rfl (fun K hK => ?_) (AllReadyH.cons rfl (fun K hK => ?_) AllReadyH.nil)
  · go_simp
    refine hK.out _ _ (HS _ ((Turn.refl _ _).step_drew)) (fun hHeld => ?_)
    clear hK K
    refine wpAnyH_ready (rs := [17]) (by kernel_rfl) (by simp) ?_
    refine AllReadyH.cons rfl (fun K hK => ?_) AllReadyH.nil
    go_simp
    refine hK.out _ _ (HS _ ((Turn.refl _ _).step_alloc.step_drew)) (fun hHeld => ?_)
    clear hK K
    refine wpAnyH_ready (rs := [18]) (by kernel_rfl) (by simp) ?_
    refine AllReadyH.cons rfl (fun K hK => ?_) AllReadyH.nil
    refine step_append_lies _ (by rfl) _ _ _ (by rfl) 0 56 i0 _ 7 64 Tryd.underlying53 hi hz0 hz1 hz2 rfl (by omega) g.av m xs (by rfl) ((unhide hN).alloc _).drew ⟨w.heap.size + 1 + 1, 0, none⟩ 1 1 [.int .i64 (n : Int), .int .i64 cid, .int .i64 1, .int .i64 ver, .int .i64 pres, .string val, .int .i64 age] (by rfl) (by rfl) (World.news_of_block (cs := #[.int .i64 (n : Int), .int .i64 cid, .int .i64 1, .int .i64 ver, .int .i64 pres, .string val, .int .i64 age]) (t := 56) (fr := (0, 0)) (hsz ▸ heap_alloc_new W0 _)) (by simp [Value.oneCell']) (by omega) hm1 hm2 (by simp) (w.heap.size + 1 + 1 + 1) (by simp [hsz]) ?_; intro gb cap w1 hown1 hgrow hat hlt; have q16 := far_cell hgrow c16 (fun e => (unhide hNb _ e).2 rfl); have q16f := far_froz hgrow c16 f16 (fun e => (unhide hNb _ e).2 rfl)
    refine hK.out _ _ (HS _ (((Turn.refl _ _).step_alloc.step_drew).step_turn (Turn.grown hgrow) (fun _ _ h => Or.inr h))) (fun hHeld => ?_)
    clear hK K
    refine wpAnyH_take (i := 19) (v := ?_) rfl (by kernel_rfl) (by kernel_rfl) (by kernel_rfl) (fun _ _ _ h => h) (Or.inl ⟨by rfl, ?hy⟩) (by assumption) ?_
    case hy => intro w hSw; (try dsimp only at hSw); go_simp; (try with_reducible rfl)
    (try go_frame)
    refine wpAnyH_take (i := 20) (v := ?_) rfl (by kernel_rfl) (by kernel_rfl) (by kernel_rfl) (fun _ _ _ h => h) (Or.inl ⟨by rfl, ?hy⟩) (by assumption) ?_
    case hy => intro w hSw; (try dsimp only at hSw); go_simp; (try with_reducible rfl)
    (try go_frame)
    refine wpAnyH_ready (rs := [21]) (by kernel_rfl) (by simp) ?_
    refine AllReadyH.cons rfl (fun K hK => ?_) AllReadyH.nil
    go_simp
    refine hK.out _ _ (HS _ ((((Turn.refl _ _).step_alloc.step_drew).step_turn (Turn.grown hgrow) (fun _ _ h => Or.inr h)).step_set (Or.inr (Or.inl rfl)))) (fun hHeld => ?_)
    clear hK K
    refine wpAnyH_done (by kernel_rfl) ?_ _
    refine NoPanic.normal ?_
    go_split_ands
    clear HS
    go_wp2
    subst hn
    subst hxs
    obtain ⟨L, S⟩ := ((unhide HL).turn ((Turn.alloc nothing W0 _).step_drew)).gave (m := ⟨n, cid, 1, ver, pres, val, age⟩) hown1 hgrow (hat.imp id (fun e => by rw [e]; simp [hsz])) hlt
    exact bodyPost_ret (v := .tuple #[]) (by simp [results, Tryd.results86, go_sem]) rfl ⟨rfl, _, _, L, ((Step.of_turn T0).trans (Step.of_turn ((Turn.alloc nothing W0 _).step_drew))).trans S, ⟨rfl, rfl, rfl, rfl, rfl, rfl⟩⟩
  · go_simp
    refine hK.out _ _ (HS _ ((Turn.refl _ _).step_alloc.step_drew)) (fun hHeld => ?_)
    clear hK K
    refine wpAnyH_ready (rs := [4]) (by kernel_rfl) (by simp) ?_
    refine AllReadyH.cons rfl (fun K hK => ?_) AllReadyH.nil
    go_simp
    refine hK.out _ _ (HS _ ((Turn.refl _ _).step_alloc.step_drew)) (fun hHeld => ?_)
    clear hK K
    refine wpAnyH_ready (rs := [18]) (by kernel_rfl) (by simp) ?_
    refine AllReadyH.cons rfl (fun K hK => ?_) AllReadyH.nil
    refine step_append_lies _ (by rfl) _ _ _ (by rfl) 0 56 i0 _ 7 64 Tryd.underlying53 hi hz0 hz1 hz2 rfl (by omega) g.av m xs (by rfl) ((unhide hN).alloc _).drew ⟨w.heap.size + 1 + 1, 0, none⟩ 1 1 [.int .i64 (n : Int), .int .i64 cid, .int .i64 1, .int .i64 ver, .int .i64 pres, .string val, .int .i64 age] (by rfl) (by rfl) (World.news_of_block (cs := #[.int .i64 (n : Int), .int .i64 cid, .int .i64 1, .int .i64 ver, .int .i64 pres, .string val, .int .i64 age]) (t := 56) (fr := (0, 0)) (hsz ▸ heap_alloc_new W0 _)) (by simp [Value.oneCell']) (by omega) hm1 hm2 (by simp) (w.heap.size + 1 + 1 + 1) (by simp [hsz]) ?_; intro gb cap w1 hown1 hgrow hat hlt; have q16 := far_cell hgrow c16 (fun e => (unhide hNb _ e).2 rfl); have q16f := far_froz hgrow c16 f16 (fun e => (unhide hNb _ e).2 rfl)
    refine hK.out _ _ (HS _ (((Turn.refl _ _).step_alloc.step_drew).step_turn (Turn.grown hgrow) (fun _ _ h => Or.inr h))) (fun hHeld => ?_)
    clear hK K
    refine wpAnyH_take (i := 19) (v := ?_) rfl (by kernel_rfl) (by kernel_rfl) (by kernel_rfl) (fun _ _ _ h => h) (Or.inl ⟨by rfl, ?hy⟩) (by assumption) ?_
    case hy => intro w hSw; (try dsimp only at hSw); go_simp; (try with_reducible rfl)
    (try go_frame)
    refine wpAnyH_take (i := 20) (v := ?_) rfl (by kernel_rfl) (by kernel_rfl) (by kernel_rfl) (fun _ _ _ h => h) (Or.inl ⟨by rfl, ?hy⟩) (by assumption) ?_
    case hy => intro w hSw; (try dsimp only at hSw); go_simp; (try with_reducible rfl)
    (try go_frame)
    refine wpAnyH_ready (rs := [21]) (by kernel_rfl) (by simp) ?_
    refine AllReadyH.cons rfl (fun K hK => ?_) AllReadyH.nil
    go_simp
    refine hK.out _ _ (HS _ ((((Turn.refl _ _).step_alloc.step_drew).step_turn (Turn.grown hgrow) (fun _ _ h => Or.inr h)).step_set (Or.inr (Or.inl rfl)))) (fun hHeld => ?_)
    clear hK K
    refine wpAnyH_done (by kernel_rfl) ?_ _
    refine NoPanic.normal ?_
    go_split_ands
    clear HS
    go_wp2
    subst hn
    subst hxs
    obtain ⟨L, S⟩ := ((unhide HL).turn ((Turn.alloc nothing W0 _).step_drew)).gave (m := ⟨n, cid, 1, ver, pres, val, age⟩) hown1 hgrow (hat.imp id (fun e => by rw [e]; simp [hsz])) hlt
    exact bodyPost_ret (v := .tuple #[]) (by simp [results, Tryd.results86, go_sem]) rfl ⟨rfl, _, _, L, ((Step.of_turn T0).trans (Step.of_turn ((Turn.alloc nothing W0 _).step_drew))).trans S, ⟨rfl, rfl, rfl, rfl, rfl, rfl⟩⟩

set_option maxHeartbeats 4000000 in
theorem tell_child (own : Own) (τ bt : Nat) (g : Gh) (s : PS) (n : Nat) (x : Wt) (e : See) (w : World) (h : Lies own τ w bt g s) (hlen : s.net.length < 1000000000000) (hc : x.child ≠ 0) :
    Calls Tryd.prog 86 #[.pointer (some ⟨bt, 0, none⟩), .int .i64 (n : Int), wtV x, seeV e] w fun r w' => r = .returned (.tuple #[]) ∧ ∃ own' g', Lies own' τ w' bt g' (s.tell n x e) ∧ Step τ own own' w w' ∧ g.Like g' := by
  obtain ⟨child, serial, tag, cid⟩ := x
  obtain ⟨key, ver, pres, val, age⟩ := e
  unfold PS.tell
  dsimp only at hc ⊢
  rw [if_neg hc]
  unfold wtV seeV
  dsimp only
  have HH := hide h
  clear h
  have HN := hide hlen
  clear hlen
  by_cases ht : tag = ver
  · rw [if_pos ht]
    subst ht
    go_enter Tryd.func86, Tryd.ntmps86
    go_wp2_with fail
    generalize hW : World.alloc _ _ = W0
    have T0 : Turn nothing w W0 := by rw [← hW]; exact (Turn.alloc _ _ _).step_alloc.step_alloc
    refine (send_any own τ bt g s ⟨3, n, child, key, serial, tag, age, 0, none8⟩ W0 ((unhide HH).turn T0) (unhide HN)).mono ?_
    rintro e w1 ⟨rfl, own', g', L, S, GL⟩
    clear hW
    have HL := hide (And.intro L (And.intro ((Step.of_turn T0).trans S) GL))
    clear L S T0 GL
    go_wp2
    go_end0
    exact ⟨rfl, own', g', (unhide HL).1, (unhide HL).2.1, (unhide HL).2.2⟩
  · rw [if_neg ht]
    go_enter Tryd.func86, Tryd.ntmps86
    go_wp2_with fail
    generalize hW : World.alloc _ _ = W0
    have T0 : Turn nothing w W0 := by rw [← hW]; exact (Turn.alloc _ _ _).step_alloc.step_alloc
    refine (send_any own τ bt g s ⟨2, n, child, key, serial, ver, age, pres, val⟩ W0 ((unhide HH).turn T0) (unhide HN)).mono ?_
    rintro e w1 ⟨rfl, own', g', L, S, GL⟩
    clear hW
    have HL := hide (And.intro L (And.intro ((Step.of_turn T0).trans S) GL))
    clear L S T0 GL
    go_wp2
    go_end0
    exact ⟨rfl, own', g', (unhide HL).1, (unhide HL).2.1, (unhide HL).2.2⟩

theorem tell_any (own : Own) (τ bt : Nat) (g : Gh) (s : PS) (n : Nat) (x : Wt) (e : See) (w : World) (h : Lies own τ w bt g s) (hl1 : s.net.length < 1000000000000) (hl2 : s.answers.length < 1000000000000) :
    Calls Tryd.prog 86 #[.pointer (some ⟨bt, 0, none⟩), .int .i64 (n : Int), wtV x, seeV e] w fun r w' => r = .returned (.tuple #[]) ∧ ∃ own' g', Lies own' τ w' bt g' (s.tell n x e) ∧ Step τ own own' w w' ∧ g.Like g' := by
  by_cases hc : x.child = 0
  · rw [PS.tell, if_pos hc]; exact tell_client own τ bt g s n x e w h hl2 hc
  · exact tell_child own τ bt g s n x e w h hl1 hc

end Go.Proofs.YtpdkojgepagbnaaDoor

namespace Go.Proofs.YtpdkojgepagbnaaDoor
set_option maxRecDepth 100000
open Go.RowKit
open Tier (Mes Ans Conf)
attribute [local go_sem ↓] Go.wp_at_zero Go.wp_at_succ

def noFt : Ft := ⟨0, 0, [], .slice none 0 0⟩
theorem zeroFt (w : World) : (zeroValue 118).run Tryd.prog w = .ok (ftV noFt) w := by kernel_rfl

theorem ft_look {w : World} {bq : Nat} {l : List ((Nat × ByteArray) × Ft)} (hm : MapIs Tryd.prog 100 w bq (rawL placeV ftV l)) {n : Nat} {k : ByteArray} (h1 : n < 1000) (h2 : k.size ≤ 100) :
    (Instr.lookup 95 (.map (some bq)) (.agg #[.int .i64 (n : Int), .string k]) true).run Tryd.prog w = .ok (.tuple #[ftV ((aget l (n, k)).getD noFt), .bool (aget l (n, k)).isSome]) w := by
  obtain ⟨kl, hkey⟩ := placeKey (p := (n, k)) h1 h2
  have := map_look hm placeKeyed Tryd.underlying95 placeV_inj hkey (zeroFt w) true
  cases hg : aget l (n, k) <;> rw [hg] at this <;> simpa [placeV] using this

theorem ft_look1 {w : World} {bq : Nat} {l : List ((Nat × ByteArray) × Ft)} (hm : MapIs Tryd.prog 100 w bq (rawL placeV ftV l)) {n : Nat} {k : ByteArray} {f : Ft} (hf : aget l (n, k) = some f) (h1 : n < 1000) (h2 : k.size ≤ 100) :
    (Instr.lookup 95 (.map (some bq)) (.agg #[.int .i64 (n : Int), .string k]) false).run Tryd.prog w = .ok (ftV f) w := by
  obtain ⟨kl, hkey⟩ := placeKey (p := (n, k)) h1 h2
  have := map_look hm placeKeyed Tryd.underlying95 placeV_inj hkey (zeroFt w) false
  rw [hf] at this
  simpa [placeV] using this

theorem field_ft (a b : Int) (fa : Option Addr) (fn fc : Nat) (w : World) : (Instr.field 118 (.agg #[.int .i64 a, .int .i64 b, .slice fa fn fc]) 2).run Tryd.prog w = .ok (.slice fa fn fc) w := by kernel_rfl

set_option maxHeartbeats 2000000 in
theorem end_any (own : Own) (τ bt : Nat) (g : Gh) (s : PS) (n : Nat) (k : ByteArray) (f : Ft) (w : World) (h : Lies own τ w bt g s) (hap : s.fts.Pairwise (fun p q => p.2.serial ≠ q.2.serial)) (hpos : ∀ p ∈ s.fts, 0 < p.2.serial) (hf : aget s.fts (n, k) = some f) (h1 : n < 1000) (h2 : k.size ≤ 100) :
    Calls Tryd.prog 89 #[.pointer (some ⟨bt, 0, none⟩), placeV (n, k)] w fun r w' => r = .returned f.v ∧ ∃ own', Lies own' τ w' bt g { s with fts := adel s.fts (n, k) } ∧ Step τ own own' w w' ∧ Loose own' w' 105 4 f.v (f.l.map wtL) := by
  obtain ⟨fa, fc, hfv⟩ := row_form (h.waits _ (aget_mem hf)).row
  obtain ⟨fser, fsent, fl, fv⟩ := f
  dsimp only at hfv ⊢
  generalize (fl.map wtL).length = fn at hfv
  subst hfv
  have HH := hide h
  have HF := hide (And.intro hap (And.intro hpos hf))
  have hbt : bt < w.heap.size := h.tier.lt
  have hbq : g.bq < w.heap.size := h.fts.lt
  have hne : Hid (g.bq ≠ bt) := fun e => by have := h.ftsO; rw [e, h.tierO] at this; cases this
  have HK : Hid (∀ w' : World, w'.heap[g.bq]? = w.heap[g.bq]? → (Instr.lookup 95 (.map (some g.bq)) (.agg #[.int .i64 (n : Int), .string k]) false).run Tryd.prog w' = .ok (.agg #[.int .i64 fser, .int .i64 fsent, (.slice fa fn fc)]) w') := fun w' e => ft_look1 (h.fts.heap e) hf h1 h2
  have d13 : w.cell? ⟨bt, 13, none⟩ = some (.map (some g.bq)) := cell_of_cells h.tier.block 13
  unfold placeV
  dsimp only
  have hfield := field_ft fser fsent fa fn fc
  clear h hap hpos hf
  go_enter Tryd.func89, Tryd.ntmps89
  go_wp2
  generalize hW : World.alloc _ _ = W0
  have T0 : Turn nothing w W0 := by rw [← hW]; exact (Turn.alloc _ _ _)
  have hsz : W0.heap.size = w.heap.size + 1 := by rw [← hW]; simp
  have x0 : ∃ ty, W0.heap[w.heap.size]? = some (.cells #[.int .i64 (n : Int), .string k] ty (0, 0)) := by rw [← hW]; exact ⟨_, new1_0 _ _⟩
  have x0_0 : W0.cell? ⟨w.heap.size, 0, none⟩ = some (.int .i64 (n : Int)) := by obtain ⟨_, h⟩ := x0; exact cell_of_cells h 0
  have x0_1 : W0.cell? ⟨w.heap.size, 1, none⟩ = some (.string k) := by obtain ⟨_, h⟩ := x0; exact cell_of_cells h 1
  have c13 := T0.cell d13 id
  have HL := hide ((unhide HH).turn T0)
  clear hW d13
  have HS : ∀ w', Turn nothing W0 w' → Turn nothing W0 w' ∧ w'.cell? ⟨bt, 13, none⟩ = some (.map (some g.bq)) ∧ w'.cell? ⟨w.heap.size, 0, none⟩ = some (.int .i64 (n : Int)) ∧ w'.cell? ⟨w.heap.size, 1, none⟩ = some (.string k) ∧ ((Instr.lookup 95 (.map (some g.bq)) (.agg #[.int .i64 (n : Int), .string k]) false).run Tryd.prog w' = .ok (.agg #[.int .i64 fser, .int .i64 fsent, (.slice fa fn fc)]) w') := fun w' T => ⟨T, T.cell c13 id, T.cell x0_0 id, T.cell x0_1 id, (unhide HK _ ((T.block _ (by omega) id).trans (T0.block _ hbq id)))⟩
  go_region_held3 (fun w' => Turn nothing W0 w' ∧ w'.cell? ⟨bt, 13, none⟩ = some (.map (some g.bq)) ∧ w'.cell? ⟨w.heap.size, 0, none⟩ = some (.int .i64 (n : Int)) ∧ w'.cell? ⟨w.heap.size, 1, none⟩ = some (.string k) ∧ ((Instr.lookup 95 (.map (some g.bq)) (.agg #[.int .i64 (n : Int), .string k]) false).run Tryd.prog w' = .ok (.agg #[.int .i64 fser, .int .i64 fsent, (.slice fa fn fc)]) w')) ((go_split_ands; apply HS; all_goals (repeat (first | with_reducible assumption | with_reducible exact Turn.refl _ _ | with_reducible apply Turn.step_alloc | with_reducible apply Turn.step_drew | ((with_reducible refine Turn.step_turn (N := nothing) ?_ (by assumption) ?_); rotate_left; · exact fun _ _ h => False.elim h) | ((with_reducible refine Turn.step_set ?_ ?_); rotate_left; · first | exact Or.inr rfl | exact Or.inr (Or.inl rfl) | exact Or.inl (by simp <;> omega)) | ((with_reducible refine Turn.step_turn ?_ (Turn.grown (by assumption)) ?_); rotate_left; · exact fun _ _ h => Or.inr h) | with_reducible apply There.drew | with_reducible apply There.set | ((with_reducible refine There.turn ?_ (by assumption) ?_); rotate_left; · exact id) | assumption)))) (fail)
  go_split_ands
  clear HS
  go_wp2
  obtain ⟨kl, hkey⟩ := placeKey (p := (n, k)) h1 h2
  have hL2 : Lies own τ W0.drew.drew bt g s := (unhide HL).turn (Turn.drew _ _).step_drew
  obtain ⟨w1, hrun, hm1, ht1⟩ := map_del hL2.fts placeKeyed Tryd.underlying95 placeV_inj hkey 0
  have hgrow := ht1.grown
  have HE := hide (hL2.ended (unhide HF).2.2 (unhide HF).1 (unhide HF).2.1 hm1 ht1)
  have hbt0 : Hid (∀ k', some k' = some g.bq → k' < w.heap.size) := fun k' e => by cases e; exact hbq
  simp only [placeV] at hrun
  clear hm1 ht1 hL2
  have HS : ∀ w', Turn (fun k' => k' = 0 ∧ False ∨ some k' = some g.bq) W0 w' → Turn (fun k' => k' = 0 ∧ False ∨ some k' = some g.bq) W0 w' ∧ w'.cell? ⟨w.heap.size, 0, none⟩ = some (.int .i64 (n : Int)) ∧ w'.cell? ⟨w.heap.size, 1, none⟩ = some (.string k) ∧ (w'.cell? ⟨bt, 13, none⟩ = some (.map (some g.bq))) := fun w' T => ⟨T, T.cell x0_0 (fun h => h.elim (fun e => e.2) (fun e => absurd (unhide hbt0 _ e) (by dsimp only; omega))), T.cell x0_1 (fun h => h.elim (fun e => e.2) (fun e => absurd (unhide hbt0 _ e) (by dsimp only; omega))), (T.cell c13 (fun h => h.elim (fun e => e.2) (fun e => unhide hne (Option.some.inj e).symm)))⟩
  go_region_held3 (fun w' => Turn (fun k' => k' = 0 ∧ False ∨ some k' = some g.bq) W0 w' ∧ w'.cell? ⟨w.heap.size, 0, none⟩ = some (.int .i64 (n : Int)) ∧ w'.cell? ⟨w.heap.size, 1, none⟩ = some (.string k) ∧ (w'.cell? ⟨bt, 13, none⟩ = some (.map (some g.bq)))) ((go_split_ands; apply HS; all_goals (repeat (first | with_reducible assumption | with_reducible exact Turn.refl _ _ | with_reducible apply Turn.step_alloc | with_reducible apply Turn.step_drew | ((with_reducible refine Turn.step_turn (N := nothing) ?_ (by assumption) ?_); rotate_left; · exact fun _ _ h => False.elim h) | ((with_reducible refine Turn.step_set ?_ ?_); rotate_left; · first | exact Or.inr rfl | exact Or.inr (Or.inl rfl) | exact Or.inl (by simp <;> omega)) | ((with_reducible refine Turn.step_turn ?_ (Turn.grown (by assumption)) ?_); rotate_left; · exact fun _ _ h => Or.inr h) | with_reducible apply There.drew | with_reducible apply There.set | ((with_reducible refine There.turn ?_ (by assumption) ?_); rotate_left; · exact id) | assumption)))) (fail)
  go_split_ands
  clear HS
  go_wp2
  obtain ⟨own', L, S, R⟩ := unhide HE
  go_ret
  exact ⟨rfl, own', L, (Step.of_turn (T0.step_drew.step_drew)).trans S, R⟩

end Go.Proofs.YtpdkojgepagbnaaDoor

namespace Go.Proofs.YtpdkojgepagbnaaDoor
set_option maxRecDepth 100000
open Go.RowKit
open Tier (Mes Ans Conf)
attribute [local go_sem ↓] Go.wp_at_zero Go.wp_at_succ

def PS.refuseL (s : PS) (n : Nat) (k : ByteArray) (l : List Wt) : PS := l.foldl (fun s x => s.refuse n k x) s
theorem PS.refuse_net (s : PS) (n : Nat) (k : ByteArray) (x : Wt) : (s.refuse n k x).net.length ≤ s.net.length + 1 ∧ (s.refuse n k x).answers.length ≤ s.answers.length + 1 := by
  unfold PS.refuse; split <;> simp
theorem PS.refuseL_net (n : Nat) (k : ByteArray) : ∀ (l : List Wt) (s : PS), (s.refuseL n k l).net.length ≤ s.net.length + l.length ∧ (s.refuseL n k l).answers.length ≤ s.answers.length + l.length
  | [], s => by simp [PS.refuseL]
  | x :: r, s => by
    have h1 := PS.refuse_net s n k x
    have h2 := PS.refuseL_net n k r (s.refuse n k x)
    simp only [PS.refuseL, List.foldl_cons, List.length_cons] at *
    omega
theorem PS.refuseL_snoc (s : PS) (n : Nat) (k : ByteArray) (l : List Wt) (i : Nat) (x : Wt) (h : l[i]? = some x) : s.refuseL n k (l.take (i + 1)) = (s.refuseL n k (l.take i)).refuse n k x := by
  rw [List.take_add_one, h]
  simp [PS.refuseL]

theorem flatten_get {α : Type} {m : Nat} : ∀ (l : List (List α)) (i j : Nat) (x : List α), (∀ y ∈ l, y.length = m) → l[i]? = some x → j < m → l.flatten[i * m + j]? = x[j]?
  | [], i, j, x, _, h, _ => by simp at h
  | y :: r, 0, j, x, hl, h, hj => by
    simp at h
    subst h
    rw [List.flatten_cons, List.getElem?_append_left (by rw [hl y (by simp)]; omega)]
    simp
  | y :: r, i + 1, j, x, hl, h, hj => by
    have hy := hl y (by simp)
    rw [List.flatten_cons, List.getElem?_append_right (by rw [hy, Nat.succ_mul]; omega)]
    have := flatten_get r i j x (fun z hz => hl z (by simp [hz])) (by simpa using h) hj
    rw [← this, hy]
    congr 1
    rw [Nat.succ_mul]; omega

/-- Who waits at place i of a loose slice. -/
theorem Loose.cells {own : Own} {w : World} {a : Option Addr} {n c : Nat} {l : List Wt} (h : Loose own w 105 4 (.slice a n c) (l.map wtL)) {i : Nat} {x : Wt} (hi : l[i]? = some x) :
    ∃ b, a = some ⟨b, 0, none⟩ ∧ b < w.heap.size ∧ own b = none ∧ w.cell? ⟨b, i * 4, none⟩ = some (.int .i64 x.child) ∧ w.cell? ⟨b, i * 4 + 1, none⟩ = some (.int .i64 x.serial) ∧ w.cell? ⟨b, i * 4 + 2, none⟩ = some (.int .i64 x.tag) ∧ w.cell? ⟨b, i * 4 + 3, none⟩ = some (.int .i64 x.id) := by
  have hlen : i < l.length := (List.getElem?_eq_some_iff.1 hi).1
  have hr := h.row
  have hr' := hr
  obtain ⟨hl, ⟨hv, h0⟩ | ⟨b, cap, cur, hv, _⟩⟩ := hr
  · simp at h0; subst h0; simp at hlen
  · cases hv
    have hc := fun j (hj : j < 4) => hr'.cellAt (i * 4 + j) (by simp; omega)
    have hfl := fun j (hj : j < 4) => flatten_get (l.map wtL) i j (wtL x) (m := 4) (by intro y hy; obtain ⟨z, _, rfl⟩ := List.mem_map.1 hy; rfl) (by simp [hi]) hj
    refine ⟨b, rfl, (hr'.lt b rfl).2, h.free b rfl, ?_, ?_, ?_, ?_⟩
    · have := hc 0 (by omega); rw [hfl 0 (by omega)] at this; exact this
    · rw [hc 1 (by omega), hfl 1 (by omega)]; rfl
    · rw [hc 2 (by omega), hfl 2 (by omega)]; rfl
    · rw [hc 3 (by omega), hfl 3 (by omega)]; rfl

theorem Loose.len {own : Own} {w : World} {e size : Nat} {a : Option Addr} {n c : Nat} {l : List (List Value)} (h : Loose own w e size (.slice a n c) l) : n = l.length := by
  obtain ⟨_, ⟨hv, h0⟩ | ⟨b, cap, cur, hv, _⟩⟩ := h.row
  · cases hv; exact h0.symm
  · cases hv; rfl

set_option maxHeartbeats 4000000 in
theorem refuseAll_any (own : Own) (τ bt : Nat) (g : Gh) (s : PS) (n : Nat) (k : ByteArray) (f : Ft) (w : World) (h : Lies own τ w bt g s) (hap : s.fts.Pairwise (fun p q => p.2.serial ≠ q.2.serial)) (hpos : ∀ p ∈ s.fts, 0 < p.2.serial) (hf : aget s.fts (n, k) = some f) (h1 : n < 1000) (h2 : k.size ≤ 100)
    (hl1 : s.net.length + f.l.length < 1000000000000) (hl2 : s.answers.length + f.l.length < 1000000000000) :
    Calls Tryd.prog 57 #[.pointer (some ⟨bt, 0, none⟩), placeV (n, k)] w fun r w' => r = .returned (.tuple #[]) ∧ ∃ own' g', Lies own' τ w' bt g' (({ s with fts := adel s.fts (n, k) } : PS).refuseL n k f.l) ∧ Step τ own own' w w' ∧ g.Like g' := by
  obtain ⟨fa, fc, hfv⟩ := row_form (h.waits _ (aget_mem hf)).row
  have hfl : (f.l.map wtL).length = f.l.length := by simp
  dsimp only at hfv
  rw [hfl] at hfv
  have KE := hide (fun w h => end_any own τ bt g s n k f w h hap hpos hf h1 h2)
  rw [hfv] at KE
  have HH := hide h
  have hln : Hid (s.net.length + f.l.length < 1000000000000 ∧ s.answers.length + f.l.length < 1000000000000) := ⟨hl1, hl2⟩
  have hfl9 : f.l.length < 1000000000000 := by omega
  generalize hs1 : ({ s with fts := adel s.fts (n, k) } : PS) = s1 at *
  have hln1 : Hid (s1.net.length + f.l.length < 1000000000000 ∧ s1.answers.length + f.l.length < 1000000000000) := by rw [← hs1]; exact hln
  clear h hap hpos hf hfv hfl hl1 hl2 hs1 hln
  generalize f.l = L at *
  unfold placeV at *
  dsimp only at *
  go_enter Tryd.func57, Tryd.ntmps57
  go_wp2_with fail
  generalize hW : World.alloc _ _ = W0
  have T0 : Turn nothing w W0 := by rw [← hW]; exact Turn.alloc _ _ _
  have hb0 : W0.heap[w.heap.size]? = some (.cells #[.int .i64 (n : Int), .string k] 100 (0, 0)) := by rw [← hW]; exact new1_0 _ _
  have hsz : W0.heap.size = w.heap.size + 1 := by rw [← hW]; simp
  have hno : own w.heap.size = none := (unhide HH).top _ (Nat.le_refl _)
  refine (unhide KE W0 ((unhide HH).turn T0)).mono ?_
  rintro e w1 ⟨rfl, own1, L1, S1, R1⟩
  clear hW
  have x0 : w1.cell? ⟨w.heap.size, 0, none⟩ = some (.int .i64 (n : Int)) := S1.cell (cell_of_cells hb0 0) hno
  have x1 : w1.cell? ⟨w.heap.size, 1, none⟩ = some (.string k) := S1.cell (cell_of_cells hb0 1) hno
  have hno1 : own1 w.heap.size = none := S1.free (by omega) hno
  have HR1 := hide (And.intro L1 (And.intro ((Step.of_turn T0).trans S1) (And.intro R1 hno1)))
  clear L1 S1 R1 hno1 hno hb0 KE
  go_wp2
  go_loopw [10] (fun i wr => ∃ (j : Nat) (own' : Own) (g' : Gh), j ≤ L.length ∧ i = .int .i64 (j : Int) ∧ wr.cell? ⟨w.heap.size, 0, none⟩ = some (.int .i64 (n : Int)) ∧ wr.cell? ⟨w.heap.size, 1, none⟩ = some (.string k) ∧
    Hid (Lies own' τ wr bt g' (s1.refuseL n k (L.take j)) ∧ Step τ own own' w wr ∧ Loose own' wr 105 4 (.slice fa L.length fc) (L.map wtL) ∧ own' w.heap.size = none ∧ g.Like g')) (fun i _ => L.length - (intOf i).toNat)
  case atStart => exact ⟨0, own1, g, Nat.zero_le _, by simp, x0, x1, by have h := unhide HR1; exact ⟨by simpa [PS.refuseL] using h.1, h.2.1, h.2.2.1, h.2.2.2, Gh.Like.refl g⟩⟩
  case round =>
    obtain ⟨j, own', g', hj, rfl, y0, y1, HR⟩ := hrel
    by_cases hlt : j < L.length
    · obtain ⟨x, hx⟩ : ∃ x, L[j]? = some x := ⟨_, List.getElem?_eq_getElem hlt⟩
      obtain ⟨b, rfl, hb, hbo, c0, c1, c2, c3⟩ := (unhide HR).2.2.1.cells hx
      have j0 : (0 : Int) ≤ (j : Int) := by omega
      have j1 : (j : Int) < (L.length : Int) := by omega
      have hbs : w.heap.size < wr.heap.size := cell_lt y0
      go_wp2_with fail
      have TA : Turn nothing wr (wr.alloc (.cells #[.int .i64 x.child, .int .i64 x.serial, .int .i64 x.tag, .int .i64 x.id] 105)) := Turn.alloc _ _ _
      have hl := PS.refuseL_net n k (L.take j) s1
      have hlt' : (L.take j).length = j := by simp; omega
      have hq := unhide hln1
      refine (refuse_any own' τ bt g' (s1.refuseL n k (L.take j)) n k x _ ((unhide HR).1.turn TA) (by omega) (by omega)).mono ?_
      rintro e w2 ⟨rfl, own2, g2, L2, S2, GL2⟩
      clear hl hlt' hq
      have SA := (Step.of_turn (τ := τ) (own := own') TA).trans S2
      have z0 := SA.cell y0 (unhide HR).2.2.2.1
      have z1 := SA.cell y1 (unhide HR).2.2.2.1
      have hno2 : own2 w.heap.size = none := SA.free (cell_lt y0) (unhide HR).2.2.2.1
      have HR2 : Hid (Lies own2 τ w2 bt g2 (s1.refuseL n k (L.take (j + 1))) ∧ Step τ own own2 w w2 ∧ Loose own2 w2 105 4 (.slice (some ⟨b, 0, none⟩) L.length fc) (L.map wtL) ∧ own2 w.heap.size = none ∧ g.Like g2) := by
        refine ⟨?_, (unhide HR).2.1.trans SA, (unhide HR).2.2.1.step SA, hno2, (unhide HR).2.2.2.2.trans GL2⟩
        rw [PS.refuseL_snoc s1 n k L j x hx]; exact L2
      clear L2 S2 SA TA HR hno2 GL2 HR1 y0 y1 c0 c1 c2 c3
      go_wp2
      go_roundw
      case rel => exact ⟨j + 1, own2, g2, by omega, by go_num, z0, z1, HR2⟩
      case measure => simp [intOf]; omega
    · go_wp2
      go_end0
      have e : j = L.length := by omega
      subst e
      rw [List.take_length] at HR
      exact ⟨rfl, own', g', (unhide HR).1, (unhide HR).2.1, (unhide HR).2.2.2.2⟩

end Go.Proofs.YtpdkojgepagbnaaDoor
