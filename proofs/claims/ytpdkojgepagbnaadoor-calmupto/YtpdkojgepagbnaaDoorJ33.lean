/-
  The origin's key is removed by a step.
  The other steps.
  A step asks.
  A script's play from its start on: sizes, clocks, and what holds at all times.
  Every step of a script.
-/
import Derived.Test.YtpdkojgepagbnaaDoorJ32
namespace Go.Proofs.YtpdkojgepagbnaaDoor
set_option maxRecDepth 100000
open Go.RowKit
open Tier (Mes Ans Conf St Was)
attribute [local go_sem ↓] Go.wp_at_zero Go.wp_at_succ

variable {n0 : Nat} {own own' : Own} {w w' : World} {bs b : Nat} {t t' : St} {h h' : Sh}

set_option maxHeartbeats 8000000 in
theorem step_remove0 (S : Shop n0 own w bs b t h) (hn : n0 ≤ w.heap.size) (hb : b + 10 ≤ 1000000000000) (o : StepD) (hk : o.kind = 1) (ha : I64 o.a) (hl : h.l.length ≤ 100000000000) (hver : 0 ≤ (lastOf h.l (keyD o.a)).ver ∧ (lastOf h.l (keyD o.a)).ver ≤ 1000000000000) (hp : (t.item (keyD o.a)).pres = 0) (hlp : (lastOf h.l (keyD o.a)).pres = 0) :
    Calls Tryd.prog 17 #[.pointer (some ⟨bs, 0, none⟩), stepV o] w fun e w' => e = .returned (.bool true) ∧ Behind n0 own w bs (b + 5) t h w' := by
  obtain ⟨i0, hi, hz0, hz1, hz2⟩ := info_parts infoWas
  have HS := hide S
  have HB := hide hb
  obtain ⟨q, ht, hq⟩ := S.is
  have HT := hide ht
  have HQ := hide hq
  have HA := hide ha
  obtain ⟨kind, a, bb, s⟩ := o
  dsimp only at hk ha hver HA hp hlp ⊢
  subst hk
  have hkk := keyD_ok a
  have hks := keyB_le hkk
  have HKV := hide (And.intro hkk hks)
  generalize hgk : keyD a = k at *
  have HGK := hide hgk
  have hwv : IntKind.i64.wrap ((lastOf h.l k).ver + 1) = (lastOf h.l k).ver + 1 := by rw [IntKind.wrap_i64]; omega
  generalize hgl : lastOf h.l k = lw at *
  have HGL := hide hgl
  have HLL := hide hl
  obtain ⟨lkey, lver, lpres, lval, lfrm⟩ := lw
  dsimp only at hwv hver hlp ⊢
  have HP := hide hp
  clear S ht hq hb ha hkk hks hgk hgl hl hver hp
  unfold stepV
  dsimp only
  go_enter Tryd.func17, Tryd.ntmps17
  go_wp2_with fail
  generalize hW : World.alloc _ _ = W0
  have T0 : Turn nothing w W0 := by rw [← hW]; exact Turn.alloc _ _ _
  clear hW
  refine (keyOf_any a W0 (unhide HA)).mono ?_
  rintro e w1 ⟨rfl, T1⟩
  rw [unhide HGK]
  have T01 := T0.step_turn T1 (fun _ _ h => h)
  go_wp2_with fail
  refine (last_any ((unhide HQ).turn T01) (Nat.le_trans (unhide HLL) (by decide)) k (by have := (unhide HKV).2; omega)).mono ?_
  rintro e w2 ⟨rfl, T2⟩
  rw [unhide HGL]
  have T02 := T01.step_turn T2 (fun _ _ h => h)
  have bb2 : bs < w2.heap.size := ((unhide HQ).turn T02).lt
  have v0 : w2.cell? ⟨bs, 0, none⟩ = some (.pointer (some ⟨q.bt, 0, none⟩)) := cell_of_cells ((unhide HQ).turn T02).block 0
  unfold wasV wasL
  dsimp only
  subst hlp
  clear hwv hi hz0 hz1 hz2
  go_wp2_with fail
  generalize hX : World.alloc _ _ = X
  have TX : Turn nothing w2 X := by rw [← hX]; exact Turn.alloc _ _ _
  have y2 : X.cell? ⟨w2.heap.size, 2, none⟩ = some (.int .i64 0) := by rw [← hX]; exact cell_of_cells (new1_0 w2 _) 2
  have hxz : w2.heap.size < X.heap.size := by rw [← hX]; simp
  have TW := T02.step_turn TX (fun _ _ h => h)
  have HSX := hide ((unhide HS).turn TW)
  have HQX := hide ((unhide HQ).turn TW)
  have hO : own w2.heap.size = none := (unhide HT).top _ T02.size
  have KR := hide (((unhide HT).turn TW).removeNone (unhide HSX).keys (unhide HKV).1 (unhide HP))
  have HTW := hide TW
  have lowX : n0 ≤ X.heap.size := Nat.le_trans hn TW.size
  clear hX T0 T1 T2 T01 T02 TX TW v0
  refine (unhide KR).mono ?_
  rintro e w3 ⟨rfl, L3⟩
  obtain ⟨own3, S3, K3⟩ := (unhide HSX).leaves lowX (unhide HQX) L3 rfl
  have z2 := K3.cell y2 hO
  have HE := hide (And.intro S3 ((KS.of_turn (unhide HTW)).trans K3))
  clear L3 S3 K3 KR
  go_wp2
  go_ret
  exact ⟨rfl, own3, (unhide HE).1, (unhide HE).2⟩

set_option maxHeartbeats 8000000 in
theorem step_remove1 (S : Shop n0 own w bs b t h) (hn : n0 ≤ w.heap.size) (hb : b + 10 ≤ 1000000000000) (o : StepD) (hk : o.kind = 1) (ha : I64 o.a) (hl : h.l.length ≤ 100000000000) (hver : 0 ≤ (lastOf h.l (keyD o.a)).ver ∧ (lastOf h.l (keyD o.a)).ver ≤ 1000000000000) (hp : ¬ (t.item (keyD o.a)).pres = 0) (hlp : ¬ (lastOf h.l (keyD o.a)).pres = 0) :
    Calls Tryd.prog 17 #[.pointer (some ⟨bs, 0, none⟩), stepV o] w fun e w' => e = .returned (.bool true) ∧ Behind n0 own w bs (b + 5) (t.changes ⟨keyD o.a, (t.item (keyD o.a)).ver + 1, 0, Tier.empty⟩) { h with l := h.l ++ [⟨keyD o.a, (lastOf h.l (keyD o.a)).ver + 1, 0, Tier.empty, h.now⟩] } w' := by
  obtain ⟨i0, hi, hz0, hz1, hz2⟩ := info_parts infoWas
  have HS := hide S
  have HB := hide hb
  obtain ⟨q, ht, hq⟩ := S.is
  have HT := hide ht
  have HQ := hide hq
  have HA := hide ha
  obtain ⟨kind, a, bb, s⟩ := o
  dsimp only at hk ha hver HA hp hlp ⊢
  subst hk
  have hkk := keyD_ok a
  have hks := keyB_le hkk
  have HKV := hide (And.intro hkk hks)
  generalize hgk : keyD a = k at *
  have HGK := hide hgk
  have hwv : IntKind.i64.wrap ((lastOf h.l k).ver + 1) = (lastOf h.l k).ver + 1 := by rw [IntKind.wrap_i64]; omega
  generalize hgl : lastOf h.l k = lw at *
  have HGL := hide hgl
  have HLL := hide hl
  obtain ⟨lkey, lver, lpres, lval, lfrm⟩ := lw
  dsimp only at hwv hver hlp ⊢
  have HP := hide hp
  clear S ht hq hb ha hkk hks hgk hgl hl hver hp
  unfold stepV
  dsimp only
  go_enter Tryd.func17, Tryd.ntmps17
  go_wp2_with fail
  generalize hW : World.alloc _ _ = W0
  have T0 : Turn nothing w W0 := by rw [← hW]; exact Turn.alloc _ _ _
  clear hW
  refine (keyOf_any a W0 (unhide HA)).mono ?_
  rintro e w1 ⟨rfl, T1⟩
  rw [unhide HGK]
  have T01 := T0.step_turn T1 (fun _ _ h => h)
  go_wp2_with fail
  refine (last_any ((unhide HQ).turn T01) (Nat.le_trans (unhide HLL) (by decide)) k (by have := (unhide HKV).2; omega)).mono ?_
  rintro e w2 ⟨rfl, T2⟩
  rw [unhide HGL]
  have T02 := T01.step_turn T2 (fun _ _ h => h)
  have bb2 : bs < w2.heap.size := ((unhide HQ).turn T02).lt
  have v0 : w2.cell? ⟨bs, 0, none⟩ = some (.pointer (some ⟨q.bt, 0, none⟩)) := cell_of_cells ((unhide HQ).turn T02).block 0
  unfold wasV wasL
  dsimp only
  go_wp2_with fail
  generalize hX0 : World.alloc _ _ = X0
  have TX : Turn nothing w2 X0 := by rw [← hX0]; exact Turn.alloc _ _ _
  have v1 : X0.cell? ⟨w2.heap.size, 1, none⟩ = some (.int .i64 lver) := by rw [← hX0]; exact cell_of_cells (new1_0 w2 _) 1
  have v2 : X0.cell? ⟨w2.heap.size, 2, none⟩ = some (.int .i64 lpres) := by rw [← hX0]; exact cell_of_cells (new1_0 w2 _) 2
  have hxz : w2.heap.size < X0.heap.size := by rw [← hX0]; simp
  have TW := T02.step_turn TX (fun _ _ h => h)
  have HSX := hide ((unhide HS).turn TW)
  have HQ0 := hide ((unhide HQ).turn TW)
  have hO : own w2.heap.size = none := (unhide HT).top _ T02.size
  have KR := hide (((unhide HT).turn TW).remove (unhide HSX).keys (unhide HB) (unhide HKV).1 (unhide HP))
  have HTW := hide TW
  have lowX : n0 ≤ X0.heap.size := Nat.le_trans hn TW.size
  clear hX0 T0 T1 T2 T01 T02 TX TW v0 bb2
  refine (unhide KR).mono ?_
  rintro e X ⟨rfl, own3, T3, S3⟩
  have K3 := KS.of_step S3
  have y1 := K3.cell v1 hO
  have y2 := K3.cell v2 hO
  have HO3 : Hid (own3 w2.heap.size = none) := K3.free _ hxz hO
  have HQX := hide ((unhide HQ0).step S3)
  have HTX := hide T3
  have hbo : own3 bs = some (1, 1) := (unhide HQX).blockO
  have HK3 := hide ((KS.of_turn (unhide HTW)).trans K3)
  have HSY := hide ((unhide HSX).next K3 ⟨q, T3, (unhide HQX)⟩ lowX)
  have lowY : n0 ≤ X.heap.size := Nat.le_trans lowX K3.turn.size
  clear T3 S3 K3 KR v1 v2
  go_wp2
  have hbsX : bs < X.heap.size := (unhide HQX).lt
  have c8 : X.cell? ⟨bs, 8, none⟩ = some q.lv := cell_of_cells (unhide HQX).block 8
  have f8 : X.frozen? ⟨bs, 8, none⟩ = false := frozen_of_cells (unhide HQX).block 8
  have c6 : X.cell? ⟨bs, 6, none⟩ = some (.int .i64 h.now) := cell_of_cells (unhide HQX).block 6
  have c8a : ∀ o, (X.alloc o).cell? ⟨bs, 8, none⟩ = some q.lv := fun o => (Turn.alloc nothing X o).cell c8 id
  have hN := hide (unhide HQX).hist.row
  have hNb : Hid (∀ k', some k' = q.lv.ownBlock → k' < X.heap.size ∧ k' ≠ bs ∧ k' ≠ w2.heap.size) := fun k' hk' => ⟨(unhide HQX).hist.lt hk'.symm, fun e => (by have := (unhide HQX).hist.mine k' hk'.symm; rw [e, (unhide HQX).blockO] at this; cases this), fun e => by have := (unhide HQX).hist.mine k' hk'.symm; rw [e, unhide HO3] at this; cases this⟩
  have hne2 : ¬ (w2.heap.size = bs ∨ some w2.heap.size = q.lv.ownBlock) := fun e => e.elim (fun e => by rw [← e, unhide HO3] at hbo; cases hbo) (fun e => (unhide hNb _ e).2.2 rfl)
  have hm0 : (h.l.map wasL).length ≤ 100000000000 := by rw [List.length_map]; exact unhide HLL
  obtain ⟨LW, hLW⟩ : ∃ LW : Was, LW = ⟨k, lver + 1, 0, Tier.empty, h.now⟩ := ⟨_, rfl⟩
  generalize hxs : (h.l.map wasL).flatten = xs at *
  generalize hmm : (h.l.map wasL).length = m at *
  have hm1 : m + 1 ≤ maxLen := by unfold maxLen; omega
  have hm2 : (m + 1) * 56 ≤ 140737488355328 := by omega
  have HSx : ∀ w', Turn1 (fun k' => k' = bs ∨ some k' = q.lv.ownBlock) bs 8 X w' → Turn1 (fun k' => k' = bs ∨ some k' = q.lv.ownBlock) bs 8 X w' ∧ w'.cell? ⟨bs, 6, none⟩ = some (.int .i64 h.now) ∧ w'.cell? ⟨w2.heap.size, 1, none⟩ = some (.int .i64 lver) := fun w' T => ⟨T, T.cell c6 (by decide), T.turn.cell y1 hne2⟩
  go_cut [] from 15 to 188 (fun wx => Hid (∃ own1 q1, ShopIs own1 wx bs q1 t.c { h with l := h.l ++ [LW] } ∧ Step 1 own3 own1 X wx ∧ (∀ k', wx.heap.size ≤ k' → own1 k' = none) ∧ q1.bt = q.bt))
  case first =>
    refine wp_region_noPanic ?_
    refine wp_region_held_drew (S := fun w' => Turn1 (fun k' => k' = bs ∨ some k' = q.lv.ownBlock) bs 8 X w' ∧ w'.cell? ⟨bs, 6, none⟩ = some (.int .i64 h.now) ∧ w'.cell? ⟨w2.heap.size, 1, none⟩ = some (.int .i64 lver)) (by kernel_rfl) (HSx _ (Turn1.refl hbsX).step_drew) (fun hHeld => ?_)
    refine wpAnyH_take (i := 0) (v := ?_) rfl (by kernel_rfl) (by kernel_rfl) (by kernel_rfl) (fun _ _ _ h => h) (Or.inl ⟨by rfl, ?hy⟩) (by assumption) ?_
    case hy => intro w hSw; (try dsimp only at hSw); go_simp; (try with_reducible rfl)
    (try go_frame)
    refine wpAnyH_take (i := 1) (v := ?_) rfl (by kernel_rfl) (by kernel_rfl) (by kernel_rfl) (fun _ _ _ h => h) (Or.inl ⟨by rfl, ?hy⟩) (by assumption) ?_
    case hy => intro w hSw; (try dsimp only at hSw); go_simp; (try with_reducible rfl)
    (try go_frame)
    refine wpAnyH_take (i := 2) (v := ?_) rfl (by kernel_rfl) (by kernel_rfl) (by kernel_rfl) (fun _ _ _ h => h) (Or.inl ⟨by rfl, ?hy⟩) (by assumption) ?_
    case hy => intro w hSw; (try dsimp only at hSw); go_simp; (try with_reducible rfl)
    (try go_frame)
    refine wpAnyH_take (i := 3) (v := ?_) rfl (by kernel_rfl) (by kernel_rfl) (by kernel_rfl) (fun _ _ _ h => h) (Or.inl ⟨by rfl, ?hy⟩) (by assumption) ?_
    case hy => intro w hSw; (try dsimp only at hSw); go_simp; (try with_reducible rfl)
    (try go_frame)
    refine wpAnyH_take (i := 5) (v := ?_) rfl (by kernel_rfl) (by kernel_rfl) (by kernel_rfl) (fun _ _ _ h => h) (Or.inl ⟨by rfl, ?hy⟩) (by assumption) ?_
    case hy => intro w hSw; (try dsimp only at hSw); go_simp; (try with_reducible rfl)
    (try go_frame)
    refine wpAnyH_take (i := 6) (v := ?_) rfl (by kernel_rfl) (by kernel_rfl) (by kernel_rfl) (fun _ _ _ h => h) (Or.inl ⟨by rfl, ?hy⟩) (by assumption) ?_
    case hy => intro w hSw; (try dsimp only at hSw); go_simp; (try with_reducible rfl)
    (try go_frame)
    refine wpAnyH_take (i := 7) (v := ?_) rfl (by kernel_rfl) (by kernel_rfl) (by kernel_rfl) (fun _ _ _ h => h) (Or.inl ⟨by rfl, ?hy⟩) (by assumption) ?_
    case hy => intro w hSw; (try dsimp only at hSw); go_simp; (try with_reducible rfl)
    (try go_frame)
    refine wpAnyH_take (i := 8) (v := ?_) rfl (by kernel_rfl) (by kernel_rfl) (by kernel_rfl) (fun _ _ _ h => h) (Or.inl ⟨by rfl, ?hy⟩) (by assumption) ?_
    case hy => intro w hSw; (try dsimp only at hSw); go_simp; (try with_reducible rfl)
    (try go_frame)
    refine wpAnyH_take (i := 9) (v := ?_) rfl (by kernel_rfl) (by kernel_rfl) (by kernel_rfl) (fun _ _ _ h => h) (Or.inl ⟨by rfl, ?hy⟩) (by assumption) ?_
    case hy => intro w hSw; (try dsimp only at hSw); go_simp; (try with_reducible rfl)
    (try go_frame)
    refine wpAnyH_take (i := 10) (v := ?_) rfl (by kernel_rfl) (by kernel_rfl) (by kernel_rfl) (fun _ _ _ h => h) (Or.inl ⟨by rfl, ?hy⟩) (by assumption) ?_
    case hy => intro w hSw; (try dsimp only at hSw); go_simp; (try with_reducible rfl)
    (try go_frame)
    refine wpAnyH_take (i := 11) (v := ?_) rfl (by kernel_rfl) (by kernel_rfl) (by kernel_rfl) (fun _ _ _ h => h) (Or.inl ⟨by rfl, ?hy⟩) (by assumption) ?_
    case hy => intro w hSw; (try dsimp only at hSw); go_simp; (try with_reducible rfl)
    (try go_frame)
    refine wpAnyH_take (i := 12) (v := ?_) rfl (by kernel_rfl) (by kernel_rfl) (by kernel_rfl) (fun _ _ _ h => h) (Or.inl ⟨by rfl, ?hy⟩) (by assumption) ?_
    case hy => intro w hSw; (try dsimp only at hSw); go_simp; (try with_reducible rfl)
    (try go_frame)
    refine wpAnyH_take (i := 13) (v := ?_) rfl (by kernel_rfl) (by kernel_rfl) (by kernel_rfl) (fun _ _ _ h => h) (Or.inl ⟨by rfl, ?hy⟩) (by assumption) ?_
    case hy => intro w hSw; (try dsimp only at hSw); go_simp; (try with_reducible rfl)
    (try go_frame)
    refine wpAnyH_ready (rs := [4, 14]) (by kernel_rfl) (by simp) ?_
    refine AllReadyH.cons rfl (fun K hK => ?_) (AllReadyH.cons rfl (fun K hK => ?_) AllReadyH.nil)
    · go_simp
      refine hK.out _ _ (HSx _ (Turn1.refl hbsX).step_drew) (fun hHeld => ?_)
      clear hK K
      refine wpAnyH_ready (rs := [14]) (by kernel_rfl) (by simp) ?_
      refine AllReadyH.cons rfl (fun K hK => ?_) AllReadyH.nil
      go_simp
      refine hK.out _ _ (HSx _ (Turn1.refl hbsX).step_alloc.step_drew) (fun hHeld => ?_)
      clear hK K
      refine wpAnyH_ready (rs := [15]) (by kernel_rfl) (by simp) ?_
      refine AllReadyH.cons rfl (fun K hK => ?_) AllReadyH.nil
      refine step_append_lies _ (by rfl) _ _ _ (by rfl) 0 85 i0 _ 5 56 Tryd.underlying49 hi hz0 hz1 hz2 rfl (by omega) q.lv m xs (by rfl) ((unhide hN).alloc _).drew ⟨X.heap.size, 0, none⟩ 1 1 [.string k, .int .i64 (lver + 1), .int .i64 0, .string ⟨#[]⟩, .int .i64 h.now] (by rfl) (by rfl) (World.news_of_block (cs := #[.string k, .int .i64 (lver + 1), .int .i64 0, .string ⟨#[]⟩, .int .i64 h.now]) (t := 85) (fr := (0, 0)) (heap_alloc_new X _)) (by simp [Value.oneCell']) (by omega) hm1 hm2 (by simp) (X.heap.size + 1) (by simp) ?_
      intro gb cap w5 hown1 hgrow hat hlt
      have q8 := far_cell hgrow c8 (fun e => (unhide hNb _ e).2.1 rfl)
      have q8f := far_froz hgrow c8 f8 (fun e => (unhide hNb _ e).2.1 rfl)
      have TG : Turn1 (fun k' => k' = bs ∨ some k' = q.lv.ownBlock) bs 8 X w5 := (Turn1.refl hbsX).step_alloc.step_drew.step_turn (Turn.grown hgrow) (fun _ _ h => Or.inr h) (fun e => (unhide hNb _ e).2.1 rfl)
      refine hK.out _ _ (HSx _ TG) (fun hHeld => ?_)
      clear hK K
      refine wpAnyH_take (i := 16) (v := ?_) rfl (by kernel_rfl) (by kernel_rfl) (by kernel_rfl) (fun _ _ _ h => h) (Or.inl ⟨by rfl, ?hy⟩) (by assumption) ?_
      case hy => intro w hSw; (try dsimp only at hSw); go_simp; (try with_reducible rfl)
      (try go_frame)
      refine wpAnyH_take (i := 17) (v := ?_) rfl (by kernel_rfl) (by kernel_rfl) (by kernel_rfl) (fun _ _ _ h => h) (Or.inl ⟨by rfl, ?hy⟩) (by assumption) ?_
      case hy => intro w hSw; (try dsimp only at hSw); go_simp; (try with_reducible rfl)
      (try go_frame)
      refine wpAnyH_ready (rs := [18]) (by kernel_rfl) (by simp) ?_
      refine AllReadyH.cons rfl (fun K hK => ?_) AllReadyH.nil
      go_simp
      refine hK.out _ _ (HSx _ (TG.step_set (Or.inl rfl))) (fun hHeld => ?_)
      clear hK K
      refine wpAnyH_done (by kernel_rfl) ?_ _
      refine NoPanic.normal ?_
      go_wp2
      go_meet
      subst hmm
      subst hxs
      subst hLW
      obtain ⟨L, S, TP⟩ := ((unhide HQX).turn ((Turn.alloc nothing X _).step_drew)).logged (r := ⟨k, lver + 1, 0, Tier.empty, h.now⟩) (fun k' hk' => (unhide HTX).top k' (Nat.le_trans (Turn.alloc nothing X _).step_drew.size hk')) hown1 hgrow (hat.imp id (fun e => by rw [e]; simp)) hlt
      exact ⟨_, _, L, (Step.of_turn ((Turn.alloc nothing X _).step_drew)).trans S, TP, rfl⟩
    · go_simp
      refine hK.out _ _ (HSx _ (Turn1.refl hbsX).step_alloc.step_drew) (fun hHeld => ?_)
      clear hK K
      refine wpAnyH_ready (rs := [4]) (by kernel_rfl) (by simp) ?_
      refine AllReadyH.cons rfl (fun K hK => ?_) AllReadyH.nil
      go_simp
      refine hK.out _ _ (HSx _ (Turn1.refl hbsX).step_alloc.step_drew) (fun hHeld => ?_)
      clear hK K
      refine wpAnyH_ready (rs := [15]) (by kernel_rfl) (by simp) ?_
      refine AllReadyH.cons rfl (fun K hK => ?_) AllReadyH.nil
      refine step_append_lies _ (by rfl) _ _ _ (by rfl) 0 85 i0 _ 5 56 Tryd.underlying49 hi hz0 hz1 hz2 rfl (by omega) q.lv m xs (by rfl) ((unhide hN).alloc _).drew ⟨X.heap.size, 0, none⟩ 1 1 [.string k, .int .i64 (lver + 1), .int .i64 0, .string ⟨#[]⟩, .int .i64 h.now] (by rfl) (by rfl) (World.news_of_block (cs := #[.string k, .int .i64 (lver + 1), .int .i64 0, .string ⟨#[]⟩, .int .i64 h.now]) (t := 85) (fr := (0, 0)) (heap_alloc_new X _)) (by simp [Value.oneCell']) (by omega) hm1 hm2 (by simp) (X.heap.size + 1) (by simp) ?_
      intro gb cap w5 hown1 hgrow hat hlt
      have q8 := far_cell hgrow c8 (fun e => (unhide hNb _ e).2.1 rfl)
      have q8f := far_froz hgrow c8 f8 (fun e => (unhide hNb _ e).2.1 rfl)
      have TG : Turn1 (fun k' => k' = bs ∨ some k' = q.lv.ownBlock) bs 8 X w5 := (Turn1.refl hbsX).step_alloc.step_drew.step_turn (Turn.grown hgrow) (fun _ _ h => Or.inr h) (fun e => (unhide hNb _ e).2.1 rfl)
      refine hK.out _ _ (HSx _ TG) (fun hHeld => ?_)
      clear hK K
      refine wpAnyH_take (i := 16) (v := ?_) rfl (by kernel_rfl) (by kernel_rfl) (by kernel_rfl) (fun _ _ _ h => h) (Or.inl ⟨by rfl, ?hy⟩) (by assumption) ?_
      case hy => intro w hSw; (try dsimp only at hSw); go_simp; (try with_reducible rfl)
      (try go_frame)
      refine wpAnyH_take (i := 17) (v := ?_) rfl (by kernel_rfl) (by kernel_rfl) (by kernel_rfl) (fun _ _ _ h => h) (Or.inl ⟨by rfl, ?hy⟩) (by assumption) ?_
      case hy => intro w hSw; (try dsimp only at hSw); go_simp; (try with_reducible rfl)
      (try go_frame)
      refine wpAnyH_ready (rs := [18]) (by kernel_rfl) (by simp) ?_
      refine AllReadyH.cons rfl (fun K hK => ?_) AllReadyH.nil
      go_simp
      refine hK.out _ _ (HSx _ (TG.step_set (Or.inl rfl))) (fun hHeld => ?_)
      clear hK K
      refine wpAnyH_done (by kernel_rfl) ?_ _
      refine NoPanic.normal ?_
      go_wp2
      go_meet
      subst hmm
      subst hxs
      subst hLW
      obtain ⟨L, S, TP⟩ := ((unhide HQX).turn ((Turn.alloc nothing X _).step_drew)).logged (r := ⟨k, lver + 1, 0, Tier.empty, h.now⟩) (fun k' hk' => (unhide HTX).top k' (Nat.le_trans (Turn.alloc nothing X _).step_drew.size hk')) hown1 hgrow (hat.imp id (fun e => by rw [e]; simp)) hlt
      exact ⟨_, _, L, (Step.of_turn ((Turn.alloc nothing X _).step_drew)).trans S, TP, rfl⟩
  case rest =>
    rename World => Y
    obtain ⟨own1, q1, Q1, S1, top1, e1⟩ := unhide hcut
    subst hLW
    have HTY := hide ((unhide HTX).step1 S1 top1)
    have K1 := KS.of_step S1
    have HE := hide (And.intro ((unhide HSY).next (t' := t.changes ⟨k, (t.item k).ver + 1, 0, Tier.empty⟩) (b' := b + 5) K1 ⟨q1, (by rw [e1]; exact unhide HTY), Q1⟩ lowY) ((unhide HK3).trans K1))
    clear Q1 S1 top1 K1 hcut
    go_wp2
    go_ret
    exact ⟨rfl, own1, (unhide HE).1, (unhide HE).2⟩

end Go.Proofs.YtpdkojgepagbnaaDoor

namespace Go.Proofs.YtpdkojgepagbnaaDoor
set_option maxRecDepth 100000
open Go.RowKit
open Tier (Mes Ans Conf St Was)
attribute [local go_sem ↓] Go.wp_at_zero Go.wp_at_succ

variable {n0 : Nat} {own own' : Own} {w w' : World} {bs b : Nat} {t t' : St} {h h' : Sh}

set_option maxHeartbeats 4000000 in
theorem step_pass (S : Shop n0 own w bs b t h) (hn : n0 ≤ w.heap.size) (hb : b + 500010 ≤ 1000000000000) (o : StepD) (hk : o.kind = 2) (ha : I64 o.a) (hbb : I64 o.b) (hclk : ∀ j, j < h.clocks.length → 0 ≤ h.clocks.getD j 0 ∧ h.clocks.getD j 0 ≤ 1099511627776) (hlen : h.clocks.length = t.c.parents.length) (hnow : 0 ≤ h.now ∧ h.now ≤ 1000000000000000) :
    Calls Tryd.prog 17 #[.pointer (some ⟨bs, 0, none⟩), stepV o] w fun e w' => e = .returned (.bool true) ∧ Behind n0 own w bs (b + 500000) (stepF o h t).2 (stepF o h t).1 w' := by
  have HS := hide S
  have HB := hide hb
  obtain ⟨q, ht, hq⟩ := S.is
  have h26 := ht.len
  have HT := hide ht
  have HQ := hide hq
  have HA := hide ha
  have HBB := hide hbb
  have hbs := hq.lt
  have d0 : w.cell? ⟨bs, 0, none⟩ = some (.pointer (some ⟨q.bt, 0, none⟩)) := cell_of_cells hq.block 0
  have hO : own w.heap.size = none := ht.top _ (Nat.le_refl _)
  have HR : Hid (stepF o h t = ({ h with now := h.now + pickN o.a 1000, clocks := (passF t.c.drift (pickN o.a 1000) o.b (h.clocks.length - 1) 1 h.clocks t).1 }, (passF t.c.drift (pickN o.a 1000) o.b (h.clocks.length - 1) 1 h.clocks t).2)) := by
    show stepF o h t = _
    unfold stepF
    rw [if_neg (by omega), if_neg (by omega), if_pos hk]
  generalize stepF o h t = R at *
  have HCK := hide (And.intro hclk (And.intro hlen hnow))
  clear hclk hlen hnow
  obtain ⟨kind, a, bb, s⟩ := o
  dsimp only at hk ha hbb HA HBB HR ⊢
  subst hk
  clear S ht hq hb ha hbb
  unfold stepV
  dsimp only
  go_enter Tryd.func17, Tryd.ntmps17
  go_wp2
  generalize hW : World.alloc _ _ = X
  have T0 : Turn nothing w X := by rw [← hW]; exact Turn.alloc _ _ _
  have x1 : X.cell? ⟨w.heap.size, 1, none⟩ = some (.int .i64 a) := by rw [← hW]; exact cell_of_cells (new1_0 w _) 1
  have x2 : X.cell? ⟨w.heap.size, 2, none⟩ = some (.int .i64 bb) := by rw [← hW]; exact cell_of_cells (new1_0 w _) 2
  have x0 := T0.cell d0 id
  have HSX := hide ((unhide HS).turn T0)
  have HTX := hide ((unhide HT).turn T0)
  have HQX := hide ((unhide HQ).turn T0)
  have lowX : n0 ≤ X.heap.size := Nat.le_trans hn T0.size
  have HT0 := hide T0
  have hnx : ¬ own w.heap.size ≠ none := fun e => e hO
  have hn0 : ¬ Mine own 0 w.heap.size := fun ⟨y, hy⟩ => by rw [hO] at hy; cases hy
  have hnb : ¬ Mine own 0 bs := fun ⟨y, hy⟩ => by rw [(unhide HQ).blockO] at hy; cases hy
  clear hW T0 d0
  have HPN := hide (pickN_ok a (n := 1000) (by decide))
  have KP := hide (fun w' => pick_i64 a 1000 w' (unhide HA) (by decide))
  have KS0 := hide (fun w' (T : Turn nothing X w') => passes_any ((unhide HSX).turn T) (Nat.le_trans lowX T.size) (by have := unhide HB; omega) (pickN a 1000) bb (unhide HPN) (unhide HBB) (unhide HCK).1 (unhide HCK).2.1 (unhide HCK).2.2)
  generalize pickN a 1000 = pa at *
  have HS : ∀ w', Turn (fun k' => own k' ≠ none) X w' → Turn (fun k' => own k' ≠ none) X w' ∧ w'.cell? ⟨w.heap.size, 1, none⟩ = some (.int .i64 a) ∧ w'.cell? ⟨w.heap.size, 2, none⟩ = some (.int .i64 bb) := fun w' T => ⟨T, T.cell x1 (hnx), T.cell x2 (hnx)⟩
  go_region_held3 (fun w' => Turn (fun k' => own k' ≠ none) X w' ∧ w'.cell? ⟨w.heap.size, 1, none⟩ = some (.int .i64 a) ∧ w'.cell? ⟨w.heap.size, 2, none⟩ = some (.int .i64 bb)) ((go_split_ands; apply HS; all_goals (repeat (first | with_reducible assumption | with_reducible exact Turn.refl _ _ | with_reducible apply Turn.step_alloc | with_reducible apply Turn.step_drew | ((with_reducible refine Turn.step_turn (N := nothing) ?_ (by assumption) ?_); rotate_left; · exact fun _ _ h => False.elim h) | ((with_reducible refine Turn.step_set ?_ ?_); rotate_left; · first | exact Or.inr rfl | exact Or.inr (Or.inl rfl) | exact Or.inl (by simp <;> omega)) | ((with_reducible refine Turn.step_turn ?_ (Turn.grown (by assumption)) ?_); rotate_left; · exact fun _ _ h => Or.inr h) | with_reducible apply There.drew | with_reducible apply There.set | ((with_reducible refine There.turn ?_ (by assumption) ?_); rotate_left; · exact id) | assumption)))) (first | (go_at_call 13; go_split_ands; refine (unhide KP _).mono ?_; rintro e w7 ⟨rfl, rfl⟩) | (go_at_call 44; go_split_ands; refine (unhide KS0 _ (Turn.drew _ _)).mono ?_; rintro e w8 ⟨rfl, own8, S8, K8⟩; have TF : Turn (fun k' => own k' ≠ none) X w8 := (Turn.drew _ _).step_turn K8.turn (fun _ _ h => h)))
  all_goals go_split_ands
  all_goals have HE := hide (And.intro S8 ((KS.of_turn ((unhide HT0).step_turn (Turn.drew nothing _) (fun _ _ h => h))).trans K8))
  all_goals clear S8 K8 TF HS
  all_goals go_wp2
  all_goals go_ret
  all_goals exact ⟨rfl, own8, by rw [unhide HR]; exact (unhide HE).1.mono (by omega), (unhide HE).2⟩

set_option maxHeartbeats 4000000 in
theorem step_timeout (S : Shop n0 own w bs b t h) (hn : n0 ≤ w.heap.size) (hb : b + 500010 ≤ 1000000000000) (o : StepD) (hk : o.kind = 7) (ha : I64 o.a) (hbb : I64 o.b)  :
    Calls Tryd.prog 17 #[.pointer (some ⟨bs, 0, none⟩), stepV o] w fun e w' => e = .returned (.bool true) ∧ Behind n0 own w bs (b + 500000) (t.timeout (cacheD t.c o.a) (keyD o.b)) h w' := by
  have HS := hide S
  have HB := hide hb
  obtain ⟨q, ht, hq⟩ := S.is
  have h26 := ht.len
  have HT := hide ht
  have HQ := hide hq
  have HA := hide ha
  have HBB := hide hbb
  have hbs := hq.lt
  have d0 : w.cell? ⟨bs, 0, none⟩ = some (.pointer (some ⟨q.bt, 0, none⟩)) := cell_of_cells hq.block 0
  have hO : own w.heap.size = none := ht.top _ (Nat.le_refl _)
  have hca := cacheD_ok h26.1 o.a
  have KC := hide (fun w' (T : Turn nothing w w') => cache_any (hq.turn T) h26 o.a ha)
  have KK := hide (fun w' => keyOf_any o.b w' hbb)
  have KT := hide (fun w' (T : Turn nothing w w') => (ht.turn T).timeout (S.keys.turn T) (by omega) hca.1 hca.2 (keyD_ok o.b))
  have HTE : Hid (t.timeoutE (cacheD t.c o.a) (keyD o.b) = 0 ∨ t.timeoutE (cacheD t.c o.a) (keyD o.b) = 8) := by
    show _ = _ ∨ _ = _
    unfold Tier.St.timeoutE
    split
    · exact Or.inl rfl
    · exact Or.inr rfl
  generalize t.timeoutE (cacheD t.c o.a) (keyD o.b) = te at *
  have HCT : Hid ((t.timeout (cacheD t.c o.a) (keyD o.b)).c = t.c) := c_timeout ..
  generalize t.timeout (cacheD t.c o.a) (keyD o.b) = t2 at *
  generalize cacheD t.c o.a = ca at *
  generalize keyD o.b = kb at *
  clear hca
  obtain ⟨kind, a, bb, s⟩ := o
  dsimp only at hk ha hbb HA HBB KC KK KT ⊢
  subst hk
  clear S ht hq hb ha hbb
  unfold stepV
  dsimp only
  go_enter Tryd.func17, Tryd.ntmps17
  go_wp2
  generalize hW : World.alloc _ _ = X
  have T0 : Turn nothing w X := by rw [← hW]; exact Turn.alloc _ _ _
  have x1 : X.cell? ⟨w.heap.size, 1, none⟩ = some (.int .i64 a) := by rw [← hW]; exact cell_of_cells (new1_0 w _) 1
  have x2 : X.cell? ⟨w.heap.size, 2, none⟩ = some (.int .i64 bb) := by rw [← hW]; exact cell_of_cells (new1_0 w _) 2
  have x0 := T0.cell d0 id
  have HSX := hide ((unhide HS).turn T0)
  have HTX := hide ((unhide HT).turn T0)
  have HQX := hide ((unhide HQ).turn T0)
  have lowX : n0 ≤ X.heap.size := Nat.le_trans hn T0.size
  have HT0 := hide T0
  have hnx : ¬ own w.heap.size ≠ none := fun e => e hO
  have hn0 : ¬ Mine own 0 w.heap.size := fun ⟨y, hy⟩ => by rw [hO] at hy; cases hy
  have hnb : ¬ Mine own 0 bs := fun ⟨y, hy⟩ => by rw [(unhide HQ).blockO] at hy; cases hy
  clear hW T0 d0
  have HS : ∀ w', Turn (Mine own 0) X w' → Turn (Mine own 0) X w' ∧ w'.cell? ⟨bs, 0, none⟩ = some (.pointer (some ⟨q.bt, 0, none⟩)) ∧ w'.cell? ⟨w.heap.size, 1, none⟩ = some (.int .i64 a) ∧ w'.cell? ⟨w.heap.size, 2, none⟩ = some (.int .i64 bb) := fun w' T => ⟨T, T.cell x0 (by first | exact hn0 | exact hnb), T.cell x1 (by first | exact hn0 | exact hnb), T.cell x2 (by first | exact hn0 | exact hnb)⟩
  go_region_held3 (fun w' => Turn (Mine own 0) X w' ∧ w'.cell? ⟨bs, 0, none⟩ = some (.pointer (some ⟨q.bt, 0, none⟩)) ∧ w'.cell? ⟨w.heap.size, 1, none⟩ = some (.int .i64 a) ∧ w'.cell? ⟨w.heap.size, 2, none⟩ = some (.int .i64 bb)) ((go_split_ands; apply HS; all_goals (repeat (first | with_reducible assumption | with_reducible exact Turn.refl _ _ | with_reducible apply Turn.step_alloc | with_reducible apply Turn.step_drew | ((with_reducible refine Turn.step_turn (N := nothing) ?_ (by assumption) ?_); rotate_left; · exact fun _ _ h => False.elim h) | ((with_reducible refine Turn.step_set ?_ ?_); rotate_left; · first | exact Or.inr rfl | exact Or.inr (Or.inl rfl) | exact Or.inl (by simp <;> omega)) | ((with_reducible refine Turn.step_turn ?_ (Turn.grown (by assumption)) ?_); rotate_left; · exact fun _ _ h => Or.inr h) | with_reducible apply There.drew | with_reducible apply There.set | ((with_reducible refine There.turn ?_ (by assumption) ?_); rotate_left; · exact id) | assumption)))) (first | (go_at_call 23; go_split_ands; refine (unhide KC _ ((unhide HT0).step_turn (Turn.drew nothing X) (fun _ _ h => h))).mono ?_; rintro e w7 ⟨rfl, rfl⟩) | (go_at_call 21; go_split_ands; refine (unhide KK _).mono ?_; rintro e w9 ⟨rfl, T9⟩) | (go_at_call 29; go_split_ands; refine (unhide KT _ ((unhide HT0).step_turn ((Turn.drew nothing X).step_turn T9 (fun _ _ h => h)) (fun _ _ h => h))).mono ?_; rintro e w8 ⟨rfl, own8, T8, S8⟩; have TF : Turn (Mine own 0) X w8 := ((Turn.drew _ X).step_turn T9 (fun _ _ h => h.elim)).step_turn S8.turn (fun _ _ h => h)))
  go_split_ands
  have T19 := (Turn.drew nothing X).step_turn T9 (fun _ _ h => h)
  obtain ⟨own9, S9, K9⟩ := ((unhide HSX).turn T19).leaves (b' := b + 5) (Nat.le_trans lowX T19.size) ((unhide HQX).turn T19) ⟨own8, T8, S8⟩ (unhide HCT)
  have HE := hide (And.intro S9 ((KS.of_turn ((unhide HT0).step_turn T19 (fun _ _ h => h))).trans K9))
  clear S8 T8 TF HS T19 S9 K9 T9
  rcases unhide HTE with e | e
  · rw [e]
    go_wp2
    go_ret
    exact ⟨rfl, own9, (unhide HE).1.mono (by omega), (unhide HE).2⟩
  · rw [e]
    go_wp2
    go_ret
    exact ⟨rfl, own9, (unhide HE).1.mono (by omega), (unhide HE).2⟩

set_option maxHeartbeats 4000000 in
theorem step_crash (S : Shop n0 own w bs b t h) (hn : n0 ≤ w.heap.size) (hb : b + 500010 ≤ 1000000000000) (o : StepD) (hk : o.kind = 8) (ha : I64 o.a) (hbb : I64 o.b)  :
    Calls Tryd.prog 17 #[.pointer (some ⟨bs, 0, none⟩), stepV o] w fun e w' => e = .returned (.bool true) ∧ Behind n0 own w bs (b + 500000) (t.crash (cacheD t.c o.a)) h w' := by
  have HS := hide S
  have HB := hide hb
  obtain ⟨q, ht, hq⟩ := S.is
  have h26 := ht.len
  have HT := hide ht
  have HQ := hide hq
  have HA := hide ha
  have HBB := hide hbb
  have hbs := hq.lt
  have d0 : w.cell? ⟨bs, 0, none⟩ = some (.pointer (some ⟨q.bt, 0, none⟩)) := cell_of_cells hq.block 0
  have hO : own w.heap.size = none := ht.top _ (Nat.le_refl _)
  have hca := cacheD_ok h26.1 o.a
  have KC := hide (fun w' (T : Turn nothing w w') => cache_any (hq.turn T) h26 o.a ha)
  have KT := hide (fun w' (T : Turn nothing w w') => (ht.turn T).crash hca.1 hca.2)
  have HCT : Hid ((t.crash (cacheD t.c o.a)).c = t.c) := rfl
  generalize t.crash (cacheD t.c o.a) = t2 at *
  generalize cacheD t.c o.a = ca at *
  clear hca
  obtain ⟨kind, a, bb, s⟩ := o
  dsimp only at hk ha hbb HA HBB KC KT ⊢
  subst hk
  clear S ht hq hb ha hbb
  unfold stepV
  dsimp only
  go_enter Tryd.func17, Tryd.ntmps17
  go_wp2
  generalize hW : World.alloc _ _ = X
  have T0 : Turn nothing w X := by rw [← hW]; exact Turn.alloc _ _ _
  have x1 : X.cell? ⟨w.heap.size, 1, none⟩ = some (.int .i64 a) := by rw [← hW]; exact cell_of_cells (new1_0 w _) 1
  have x2 : X.cell? ⟨w.heap.size, 2, none⟩ = some (.int .i64 bb) := by rw [← hW]; exact cell_of_cells (new1_0 w _) 2
  have x0 := T0.cell d0 id
  have HSX := hide ((unhide HS).turn T0)
  have HTX := hide ((unhide HT).turn T0)
  have HQX := hide ((unhide HQ).turn T0)
  have lowX : n0 ≤ X.heap.size := Nat.le_trans hn T0.size
  have HT0 := hide T0
  have hnx : ¬ own w.heap.size ≠ none := fun e => e hO
  have hn0 : ¬ Mine own 0 w.heap.size := fun ⟨y, hy⟩ => by rw [hO] at hy; cases hy
  have hnb : ¬ Mine own 0 bs := fun ⟨y, hy⟩ => by rw [(unhide HQ).blockO] at hy; cases hy
  clear hW T0 d0
  have HS : ∀ w', Turn (Mine own 0) X w' → Turn (Mine own 0) X w' ∧ w'.cell? ⟨bs, 0, none⟩ = some (.pointer (some ⟨q.bt, 0, none⟩)) ∧ w'.cell? ⟨w.heap.size, 1, none⟩ = some (.int .i64 a) := fun w' T => ⟨T, T.cell x0 (by first | exact hn0 | exact hnb), T.cell x1 (by first | exact hn0 | exact hnb)⟩
  go_region_held3 (fun w' => Turn (Mine own 0) X w' ∧ w'.cell? ⟨bs, 0, none⟩ = some (.pointer (some ⟨q.bt, 0, none⟩)) ∧ w'.cell? ⟨w.heap.size, 1, none⟩ = some (.int .i64 a)) ((go_split_ands; apply HS; all_goals (repeat (first | with_reducible assumption | with_reducible exact Turn.refl _ _ | with_reducible apply Turn.step_alloc | with_reducible apply Turn.step_drew | ((with_reducible refine Turn.step_turn (N := nothing) ?_ (by assumption) ?_); rotate_left; · exact fun _ _ h => False.elim h) | ((with_reducible refine Turn.step_set ?_ ?_); rotate_left; · first | exact Or.inr rfl | exact Or.inr (Or.inl rfl) | exact Or.inl (by simp <;> omega)) | ((with_reducible refine Turn.step_turn ?_ (Turn.grown (by assumption)) ?_); rotate_left; · exact fun _ _ h => Or.inr h) | with_reducible apply There.drew | with_reducible apply There.set | ((with_reducible refine There.turn ?_ (by assumption) ?_); rotate_left; · exact id) | assumption)))) (first | (go_at_call 23; go_split_ands; refine (unhide KC _ ((unhide HT0).step_turn (Turn.drew nothing X) (fun _ _ h => h))).mono ?_; rintro e w7 ⟨rfl, rfl⟩) | (go_at_call 46; go_split_ands; refine (unhide KT _ ((unhide HT0).step_turn (Turn.drew nothing X) (fun _ _ h => h))).mono ?_; rintro e w8 ⟨rfl, own8, T8, S8⟩; have TF : Turn (Mine own 0) X w8 := (Turn.drew _ X).step_turn S8.turn (fun _ _ h => h)))
  go_split_ands
  have T19 := Turn.drew nothing X
  obtain ⟨own9, S9, K9⟩ := ((unhide HSX).turn T19).leaves (b' := b + 5) (Nat.le_trans lowX T19.size) ((unhide HQX).turn T19) ⟨own8, T8, S8⟩ (unhide HCT)
  have HE := hide (And.intro S9 ((KS.of_turn ((unhide HT0).step_turn T19 (fun _ _ h => h))).trans K9))
  clear S8 T8 TF HS T19 S9 K9
  go_wp2
  go_ret
  exact ⟨rfl, own9, (unhide HE).1.mono (by omega), (unhide HE).2⟩

set_option maxHeartbeats 4000000 in
theorem step_settle (S : Shop n0 own w bs b t h) (hn : n0 ≤ w.heap.size) (hb : b + 500010 ≤ 1000000000000) (o : StepD) (hk : o.kind = 9) (ha : I64 o.a) (hbb : I64 o.b)  :
    Calls Tryd.prog 17 #[.pointer (some ⟨bs, 0, none⟩), stepV o] w fun e w' => e = .returned (.bool true) ∧ Behind n0 own w bs (b + 500000) (settleF 100000 t).1 { h with tired := h.tired || (settleF 100000 t).2 } w' := by
  have HS := hide S
  have HB := hide hb
  obtain ⟨q, ht, hq⟩ := S.is
  have h26 := ht.len
  have HT := hide ht
  have HQ := hide hq
  have HA := hide ha
  have HBB := hide hbb
  have hbs := hq.lt
  have d0 : w.cell? ⟨bs, 0, none⟩ = some (.pointer (some ⟨q.bt, 0, none⟩)) := cell_of_cells hq.block 0
  have hO : own w.heap.size = none := ht.top _ (Nat.le_refl _)
  have KSe := hide (fun w' (T : Turn nothing w w') => settles_any (S.turn T) (Nat.le_trans hn T.size) hb)
  generalize settleF 100000 t = F at *
  obtain ⟨kind, a, bb, s⟩ := o
  dsimp only at hk ha hbb HA HBB ⊢
  subst hk
  clear S ht hq hb ha hbb
  unfold stepV
  dsimp only
  go_enter Tryd.func17, Tryd.ntmps17
  go_wp2_with fail
  generalize hW : World.alloc _ _ = X
  have T0 : Turn nothing w X := by rw [← hW]; exact Turn.alloc _ _ _
  have x1 : X.cell? ⟨w.heap.size, 1, none⟩ = some (.int .i64 a) := by rw [← hW]; exact cell_of_cells (new1_0 w _) 1
  have x2 : X.cell? ⟨w.heap.size, 2, none⟩ = some (.int .i64 bb) := by rw [← hW]; exact cell_of_cells (new1_0 w _) 2
  have x0 := T0.cell d0 id
  have HSX := hide ((unhide HS).turn T0)
  have HTX := hide ((unhide HT).turn T0)
  have HQX := hide ((unhide HQ).turn T0)
  have lowX : n0 ≤ X.heap.size := Nat.le_trans hn T0.size
  have HT0 := hide T0
  have hnx : ¬ own w.heap.size ≠ none := fun e => e hO
  have hn0 : ¬ Mine own 0 w.heap.size := fun ⟨y, hy⟩ => by rw [hO] at hy; cases hy
  have hnb : ¬ Mine own 0 bs := fun ⟨y, hy⟩ => by rw [(unhide HQ).blockO] at hy; cases hy
  clear hW T0 d0
  refine (unhide KSe _ (unhide HT0)).mono ?_
  rintro e w8 ⟨rfl, own8, S8, K8⟩
  have HE := hide (And.intro S8 ((KS.of_turn (unhide HT0)).trans K8))
  clear S8 K8
  go_wp2
  go_ret
  exact ⟨rfl, own8, (unhide HE).1, (unhide HE).2⟩

set_option maxHeartbeats 4000000 in
theorem step_net (S : Shop n0 own w bs b t h) (hn : n0 ≤ w.heap.size) (hb : b + 500010 ≤ 1000000000000) (o : StepD) (hk : o.kind = 4 ∨ o.kind = 5 ∨ o.kind = 6) (ha : I64 o.a) :
    Calls Tryd.prog 17 #[.pointer (some ⟨bs, 0, none⟩), stepV o] w fun e w' => e = .returned (.bool true) ∧ Behind n0 own w bs (b + 500000) (netF o t) h w' := by
  have HB := hide hb
  have hbs : bs < w.heap.size := by obtain ⟨q, ht, hq⟩ := S.is; exact hq.lt
  have KN := hide (fun w' (T : Turn nothing w w') => net_any (S.turn T) (Nat.le_trans hn T.size) (by have := unhide HB; omega) o ha hk)
  clear S hb ha hn
  obtain ⟨kind, a, bb, s⟩ := o
  unfold stepV at KN ⊢
  dsimp only at hk KN ⊢
  generalize netF ⟨kind, a, bb, s⟩ t = t2 at *
  have T0 : Turn nothing w (w.alloc (.cells #[.int .i64 kind, .int .i64 a, .int .i64 bb, .string s] 45)) := Turn.alloc _ _ _
  have HT0 := hide T0
  clear T0
  rcases hk with hk | hk | hk
  all_goals subst hk
  all_goals go_enter Tryd.func17, Tryd.ntmps17
  all_goals go_wp2_with fail
  all_goals refine (unhide KN _ (unhide HT0)).mono ?_
  all_goals rintro e w8 ⟨rfl, own8, S8, K8⟩
  all_goals have HE := hide (And.intro S8 ((KS.of_turn (unhide HT0)).trans K8))
  all_goals clear S8 K8
  all_goals go_wp2
  all_goals go_ret
  all_goals exact ⟨rfl, own8, (unhide HE).1.mono (by omega), (unhide HE).2⟩

set_option maxHeartbeats 4000000 in
theorem step_other (S : Shop n0 own w bs b t h) (o : StepD) (hk : o.kind < 0 ∨ 9 < o.kind) :
    Calls Tryd.prog 17 #[.pointer (some ⟨bs, 0, none⟩), stepV o] w fun e w' => e = .returned (.bool true) ∧ Behind n0 own w bs (b + 500000) t h w' := by
  have HS := hide S
  clear S
  obtain ⟨kind, a, bb, s⟩ := o
  dsimp only at hk
  unfold stepV
  dsimp only
  have k0 : ¬ kind = 0 := by omega
  have k1 : ¬ kind = 1 := by omega
  have k2 : ¬ kind = 2 := by omega
  have k3 : ¬ kind = 3 := by omega
  have k4 : ¬ kind = 4 := by omega
  have k5 : ¬ kind = 5 := by omega
  have k6 : ¬ kind = 6 := by omega
  have k7 : ¬ kind = 7 := by omega
  have k8 : ¬ kind = 8 := by omega
  have k9 : ¬ kind = 9 := by omega
  clear hk
  go_enter Tryd.func17, Tryd.ntmps17
  go_wp2
  go_ret
  exact ⟨rfl, own, ((unhide HS).turn (Turn.alloc _ _ _)).mono (by omega), KS.of_turn (Turn.alloc _ _ _)⟩

end Go.Proofs.YtpdkojgepagbnaaDoor

namespace Go.Proofs.YtpdkojgepagbnaaDoor
set_option maxRecDepth 100000
open Go.RowKit
open Tier (Mes Ans Conf St Was)
attribute [local go_sem ↓] Go.wp_at_zero Go.wp_at_succ

variable {n0 : Nat} {own own' : Own} {w w' : World} {bs b : Nat} {t t' : St} {h h' : Sh}

set_option maxHeartbeats 4000000 in
theorem step_ask5 (S : Shop n0 own w bs b t h) (hn : n0 ≤ w.heap.size) (hb : b + 500010 ≤ 1000000000000) (o : StepD) (hk : o.kind = 3) (ha : I64 o.a) (hbb : I64 o.b) (hol : h.opn.length ≤ 100000000000) :
    Calls Tryd.prog 17 #[.pointer (some ⟨bs, 0, none⟩), stepV o] w fun e w' => e = .returned (.bool true) ∧ Behind n0 own w bs (b + 5) (t.wants (cacheD t.c o.a) (keyD o.b) ⟨-1, h.opn.length, 0, 0⟩) { h with opn := h.opn ++ [true] } w' := by
  obtain ⟨i0, hi, hz0, hz1, hz2⟩ := info_parts infoBool
  have HS := hide S
  have HB := hide hb
  obtain ⟨q, ht, hq⟩ := S.is
  have h26 := ht.len
  have HT := hide ht
  have HQ := hide hq
  have hbs := hq.lt
  have hO : own w.heap.size = none := ht.top _ (Nat.le_refl _)
  have hca := cacheD_ok h26.1 o.a
  have KC := hide (fun (own : Own) (w : World) (q : ShG) (hh : Sh) (s : ShopIs own w bs q t.c hh) => cache_any s h26 o.a ha)
  have KK := hide (fun w' => keyOf_any o.b w' hbb)
  have KA := hide (fun (own : Own) (w : World) (bt : Nat) (ht : TierAt own 0 w bt b t) (hK : KeyTab w) => ht.ask hK (by omega) (id := (h.opn.length : Int)) hca.1 hca.2 (keyD_ok o.b))
  have HCT : Hid ((t.wants (cacheD t.c o.a) (keyD o.b) ⟨-1, h.opn.length, 0, 0⟩).c = t.c) := c_wants ..
  generalize t.wants (cacheD t.c o.a) (keyD o.b) ⟨-1, h.opn.length, 0, 0⟩ = t2 at *
  generalize cacheD t.c o.a = ca at *
  generalize keyD o.b = kb at *
  obtain ⟨kind, a, bb, s⟩ := o
  dsimp only at hk ha hbb KC KK KA ⊢
  subst hk
  have HOL := hide hol
  have hwi : IntKind.i64.wrap ((h.opn.length : Int) + 1) = (h.opn.length : Int) + 1 := by rw [IntKind.wrap_i64]; omega
  have hwj : IntKind.i64.wrap ((h.opn.length : Int) + 1 - 1) = (h.opn.length : Int) := by rw [IntKind.wrap_i64]; omega
  have hwk : IntKind.i64.wrap (h.opn.length : Int) = (h.opn.length : Int) := by rw [IntKind.wrap_i64]; omega
  clear S ht hq hb ha hbb hca
  unfold stepV
  dsimp only
  go_enter Tryd.func17, Tryd.ntmps17
  go_upto_region 22 with fail
  generalize hX : World.alloc _ _ = X
  have T0 : Turn nothing w X := by rw [← hX]; exact Turn.alloc _ _ _
  have x1 : X.cell? ⟨w.heap.size, 1, none⟩ = some (.int .i64 a) := by rw [← hX]; exact cell_of_cells (new1_0 w _) 1
  have x2 : X.cell? ⟨w.heap.size, 2, none⟩ = some (.int .i64 bb) := by rw [← hX]; exact cell_of_cells (new1_0 w _) 2
  have hXs : X.heap.size = w.heap.size + 1 := by rw [← hX]; simp
  have HXS := hide hXs
  clear hX hXs
  have HQX := hide ((unhide HQ).turn T0)
  have HTX := hide ((unhide HT).turn T0)
  have e10 : X.cell? ⟨bs, 10, none⟩ = some q.ov := cell_of_cells (unhide HQX).block 10
  have e9 : X.cell? ⟨bs, 9, none⟩ = some (.int .i64 (h.opn.length : Int)) := cell_of_cells (unhide HQX).block 9
  have g10 : X.frozen? ⟨bs, 10, none⟩ = false := frozen_of_cells (unhide HQX).block 10
  have g9 : X.frozen? ⟨bs, 9, none⟩ = false := frozen_of_cells (unhide HQX).block 9
  have hN := hide (unhide HQX).opn.row
  have hNb : Hid (∀ k', some k' = q.ov.ownBlock → k' < w.heap.size ∧ k' ≠ bs) := fun k' hk' => ⟨(unhide HQ).opn.lt hk'.symm, fun e => by have := (unhide HQ).opn.mine k' hk'.symm; rw [e, (unhide HQ).blockO] at this; cases this⟩
  have hm0 : (h.opn.map boolL).length ≤ 100000000000 := by rw [List.length_map]; exact hol
  generalize hxs : (h.opn.map boolL).flatten = xs at *
  generalize hmm : (h.opn.map boolL).length = m at *
  have hbX : bs < X.heap.size := (unhide HQX).lt
  have hmL : Hid (m ≤ 100000000000) := hm0
  clear hm0 hol
  go_wp2_with (at_builtin; refine wpList_append_lies _ (by rfl) _ _ _ (by rfl) 0 4 i0 _ 1 1 Tryd.underlying50 hi hz0 hz1 hz2 rfl (by omega) q.ov m xs ?c1 ?c2 ⟨X.heap.size, 0, none⟩ 1 1 [.bool true] ?c3 ?c4 ?c5 ?c6 ?c7 ?c8 ?c9 ?c10 (X.heap.size + 1) ?c11 ?_)
  case c1 => rfl
  case c2 => exact (unhide hN).alloc _
  case c3 => rfl
  case c4 => rfl
  case c5 => exact World.news_of_block (cs := #[.bool true]) (t := 4) (fr := (0, 0)) (new1_0 X _)
  case c6 => simp [Value.oneCell']
  case c7 => omega
  case c8 => have := unhide hmL; unfold maxLen; omega
  case c9 => have := unhide hmL; omega
  case c10 => omega
  case c11 => simp
  intro gb cap w5 hown1 hgrow hat hlt
  have TA : Turn nothing X (X.alloc (.cells #[.bool true] 4)) := Turn.alloc _ _ _
  have hnr : some bs ≠ q.ov.ownBlock := fun e => (unhide hNb _ e).2 rfl
  have q10 : w5.cell? ⟨bs, 10, none⟩ = some q.ov := by rw [hgrow.cell_far ⟨bs, 10, none⟩ (Nat.lt_of_lt_of_le hbX TA.size) hnr]; exact TA.cell e10 id
  have q9 : w5.cell? ⟨bs, 9, none⟩ = some (.int .i64 (h.opn.length : Int)) := by rw [hgrow.cell_far ⟨bs, 9, none⟩ (Nat.lt_of_lt_of_le hbX TA.size) hnr]; exact TA.cell e9 id
  have q10f : w5.frozen? ⟨bs, 10, none⟩ = false := by rw [World.frozen?_of_block (hgrow.block bs (Nat.lt_of_lt_of_le hbX TA.size) hnr)]; exact TA.froz e10 id g10
  have q9f : w5.frozen? ⟨bs, 9, none⟩ = false := by rw [World.frozen?_of_block (hgrow.block bs (Nat.lt_of_lt_of_le hbX TA.size) hnr)]; exact TA.froz e9 id g9
  have HO : Hid (∃ own1 q1, ShopIs own1 ((w5.setCell ⟨bs, 10, none⟩ (.slice (some ⟨gb, 0, none⟩) (m + 1) cap)).setCell ⟨bs, 9, none⟩ (.int .i64 ((h.opn.length : Int) + 1))) bs q1 t.c { h with opn := h.opn ++ [true] } ∧ Step 1 own own1 X ((w5.setCell ⟨bs, 10, none⟩ (.slice (some ⟨gb, 0, none⟩) (m + 1) cap)).setCell ⟨bs, 9, none⟩ (.int .i64 ((h.opn.length : Int) + 1))) ∧ (∀ k', ((w5.setCell ⟨bs, 10, none⟩ (.slice (some ⟨gb, 0, none⟩) (m + 1) cap)).setCell ⟨bs, 9, none⟩ (.int .i64 ((h.opn.length : Int) + 1))).heap.size ≤ k' → own1 k' = none) ∧ q1.bt = q.bt) := by
    subst hmm
    subst hxs
    obtain ⟨L, S, TP⟩ := ((unhide HQX).turn TA).opened (fun k' hk' => (unhide HTX).top k' (Nat.le_trans TA.size hk')) hown1 hgrow (hat.imp id (fun e => by rw [e]; simp)) hlt
    exact ⟨_, _, L, (Step.of_turn TA).trans S, TP, rfl⟩
  clear hown1 hgrow hat hlt TA e10 e9 g10 g9 hN
  go_wp2
  generalize hY : World.setCell (World.setCell _ _ _) _ _ = Y at HO ⊢
  obtain ⟨own1, q1, Q1, S1, top1, e1⟩ := unhide HO
  have y0 : Y.cell? ⟨bs, 0, none⟩ = some (.pointer (some ⟨q.bt, 0, none⟩)) := by rw [← e1]; exact cell_of_cells Q1.block 0
  have y9 : Y.cell? ⟨bs, 9, none⟩ = some (.int .i64 ((h.opn.length : Int) + 1)) := by
    have := cell_of_cells Q1.block 9
    rw [this]
    show some (Value.int .i64 (((h.opn ++ [true]).length : Nat) : Int)) = _
    rw [List.length_append]; rfl
  have y1 := S1.cell x1 hO
  have y2 := S1.cell x2 hO
  have KY := (KS.of_turn T0).trans (KS.of_step S1)
  have HTY := hide ((unhide HTX).step1 S1 top1)
  have HSY := hide ((unhide HS).next (b' := b) KY ⟨q1, by rw [e1]; exact unhide HTY, Q1⟩ hn)
  have HQY := hide Q1
  have HKY := hide KY
  have lowY : n0 ≤ Y.heap.size := Nat.le_trans hn KY.turn.size
  have hO1 : own1 w.heap.size = none := (KS.of_step S1).free _ (by have := unhide HXS; omega) hO
  have hn0 : ¬ Mine own1 0 w.heap.size := fun ⟨y, hy⟩ => by rw [hO1] at hy; cases hy
  have hnb : ¬ Mine own1 0 bs := fun ⟨y, hy⟩ => by rw [Q1.blockO] at hy; cases hy
  clear hY HO Q1 S1 top1 KY q10 q9 q10f q9f x1 x2 T0
  have HS : ∀ w', Turn (Mine own1 0) Y w' → Turn (Mine own1 0) Y w' ∧ w'.cell? ⟨bs, 0, none⟩ = some (.pointer (some ⟨q.bt, 0, none⟩)) ∧ w'.cell? ⟨bs, 9, none⟩ = some (.int .i64 ((h.opn.length : Int) + 1)) ∧ w'.cell? ⟨w.heap.size, 1, none⟩ = some (.int .i64 a) ∧ w'.cell? ⟨w.heap.size, 2, none⟩ = some (.int .i64 bb) := fun w' T => ⟨T, T.cell y0 (by first | exact hn0 | exact hnb), T.cell y9 (by first | exact hn0 | exact hnb), T.cell y1 (by first | exact hn0 | exact hnb), T.cell y2 (by first | exact hn0 | exact hnb)⟩
  go_region_held3 (fun w' => Turn (Mine own1 0) Y w' ∧ w'.cell? ⟨bs, 0, none⟩ = some (.pointer (some ⟨q.bt, 0, none⟩)) ∧ w'.cell? ⟨bs, 9, none⟩ = some (.int .i64 ((h.opn.length : Int) + 1)) ∧ w'.cell? ⟨w.heap.size, 1, none⟩ = some (.int .i64 a) ∧ w'.cell? ⟨w.heap.size, 2, none⟩ = some (.int .i64 bb)) ((go_split_ands; apply HS; all_goals (repeat (first | with_reducible assumption | with_reducible exact Turn.refl _ _ | with_reducible apply Turn.step_alloc | with_reducible apply Turn.step_drew | ((with_reducible refine Turn.step_turn (N := nothing) ?_ (by assumption) ?_); rotate_left; · exact fun _ _ h => False.elim h) | ((with_reducible refine Turn.step_set ?_ ?_); rotate_left; · first | exact Or.inr rfl | exact Or.inr (Or.inl rfl) | exact Or.inl (by simp <;> omega)) | ((with_reducible refine Turn.step_turn ?_ (Turn.grown (by assumption)) ?_); rotate_left; · exact fun _ _ h => Or.inr h) | with_reducible apply There.drew | with_reducible apply There.set | ((with_reducible refine There.turn ?_ (by assumption) ?_); rotate_left; · exact id) | assumption)))) (first | (go_at_call 23; go_split_ands; refine (unhide KC own1 _ q1 _ ((unhide HQY).turn (Turn.drew nothing Y))).mono ?_; rintro e w7 ⟨rfl, rfl⟩) | (go_at_call 21; go_split_ands; refine (unhide KK _).mono ?_; rintro e w9 ⟨rfl, T9⟩) | (go_at_call 22; go_split_ands; refine (unhide KA own1 _ q.bt ((unhide HTY).turn ((Turn.drew nothing Y).step_turn T9 (fun _ _ h => h))) ((unhide HSY).keys.turn ((Turn.drew nothing Y).step_turn T9 (fun _ _ h => h)))).mono ?_; rintro e w8 ⟨rfl, own8, T8, S8⟩; have TF : Turn (Mine own1 0) Y w8 := ((Turn.drew _ Y).step_turn T9 (fun _ _ h => h.elim)).step_turn S8.turn (fun _ _ h => h)))
  go_split_ands
  have T19 := (Turn.drew nothing Y).step_turn T9 (fun _ _ h => h)
  rw [← e1] at T8
  obtain ⟨own9, S9, K9⟩ := ((unhide HSY).turn T19).leaves (b' := b + 5) (Nat.le_trans lowY T19.size) ((unhide HQY).turn T19) ⟨own8, T8, S8⟩ (unhide HCT)
  have HE := hide (And.intro S9 (((unhide HKY).trans (KS.of_turn T19)).trans K9))
  clear S8 T8 TF HS T19 S9 K9 T9
  go_wp2
  go_ret
  exact ⟨rfl, own9, (unhide HE).1, (unhide HE).2⟩

theorem step_ask (S : Shop n0 own w bs b t h) (hn : n0 ≤ w.heap.size) (hb : b + 500010 ≤ 1000000000000) (o : StepD) (hk : o.kind = 3) (ha : I64 o.a) (hbb : I64 o.b) (hol : h.opn.length ≤ 100000000000) :
    Calls Tryd.prog 17 #[.pointer (some ⟨bs, 0, none⟩), stepV o] w fun e w' => e = .returned (.bool true) ∧ Behind n0 own w bs (b + 500000) (t.wants (cacheD t.c o.a) (keyD o.b) ⟨-1, h.opn.length, 0, 0⟩) { h with opn := h.opn ++ [true] } w' := by
  refine (step_ask5 S hn hb o hk ha hbb hol).mono ?_
  rintro e w2 ⟨rfl, o2, S2, K2⟩
  exact ⟨rfl, o2, S2.mono (by omega), K2⟩

end Go.Proofs.YtpdkojgepagbnaaDoor

namespace Go.Proofs.YtpdkojgepagbnaaDoor
open Tier (Mes Ans Conf St Kept Wtr Ftc Cac Item Was)

/-- No more of anything than steps. -/
structure Siz (n : Nat) (h : Sh) : Prop where
  l : h.l.length ≤ n
  opn : h.opn.length ≤ n
  now : 0 ≤ h.now ∧ h.now ≤ 1000 * (n : Int)
  ver : ∀ r ∈ h.l, 0 ≤ r.ver ∧ r.ver ≤ n

theorem Siz.last {n : Nat} {h : Sh} (s : Siz n h) (k : ByteArray) : 0 ≤ (lastOf h.l k).ver ∧ (lastOf h.l k).ver ≤ n := by
  unfold lastOf
  cases hf : h.l.reverse.find? (fun r => decide (r.key = k)) with
  | none => show (0 : Int) ≤ 0 ∧ (0 : Int) ≤ n; omega
  | some r => exact s.ver r (List.mem_reverse.1 (List.mem_of_find?_eq_some hf))

theorem Siz.log {n : Nat} {h : Sh} (s : Siz n h) (k : ByteArray) (p : Int) (x : ByteArray) : Siz (n + 1) { h with l := h.l ++ [⟨k, (lastOf h.l k).ver + 1, p, x, h.now⟩] } := by
  have hl := s.last k
  have hn := s.now
  refine ⟨by show (h.l ++ [_]).length ≤ _; rw [List.length_append]; have := s.l; show h.l.length + 1 ≤ n + 1; omega, Nat.le_trans s.opn (by omega), ⟨hn.1, by show h.now ≤ _; omega⟩, fun r hr => ?_⟩
  rcases mem_snoc hr with hr | rfl
  · have := s.ver r hr; omega
  · show 0 ≤ (lastOf h.l k).ver + 1 ∧ (lastOf h.l k).ver + 1 ≤ ((n + 1 : Nat) : Int); omega
theorem Siz.more {n : Nat} {h : Sh} (s : Siz n h) : Siz (n + 1) h := ⟨Nat.le_trans s.l (by omega), Nat.le_trans s.opn (by omega), ⟨s.now.1, by have := s.now; omega⟩, fun r hr => by have := s.ver r hr; omega⟩

theorem Siz.step {n : Nat} {h : Sh} (s : Siz n h) (o : StepD) (t : St) : Siz (n + 1) (stepF o h t).1 := by
  have hp := pickN_ok o.a (n := 1000) (by decide)
  unfold stepF
  by_cases k0 : o.kind = 0
  · rw [if_pos k0]; exact s.log _ _ _
  rw [if_neg k0]
  by_cases k1 : o.kind = 1
  · rw [if_pos k1]
    split
    · exact s.more
    · exact s.log _ _ _
  rw [if_neg k1]
  split
  · exact ⟨s.more.l, s.more.opn, ⟨by have := s.now; show 0 ≤ h.now + pickN o.a 1000; omega, by have := s.now; show h.now + pickN o.a 1000 ≤ _; omega⟩, s.more.ver⟩
  split
  · exact ⟨s.more.l, by show (h.opn ++ [true]).length ≤ _; rw [List.length_append]; have := s.opn; show h.opn.length + 1 ≤ n + 1; omega, s.more.now, s.more.ver⟩
  split
  · exact s.more
  split
  · exact s.more
  split
  · exact s.more
  split
  · exact ⟨s.more.l, s.more.opn, s.more.now, s.more.ver⟩
  · exact s.more

theorem Siz.shut {n : Nat} {h : Sh} (s : Siz n h) (a : List Ans) : Siz n { h with opn := shut h.opn a } := ⟨s.l, by show (Go.Proofs.YtpdkojgepagbnaaDoor.shut h.opn a).length ≤ n; rw [shut_length]; exact s.opn, s.now, s.ver⟩

/-- No step but the passing of time touches the clocks. -/
theorem clocks_step {o : StepD} (hk : o.kind ≠ 2) (h : Sh) (t : St) : (stepF o h t).1.clocks = h.clocks := by
  unfold stepF
  repeat' split
  all_goals first | rfl | (exfalso; omega)

theorem cac_clock_refuseAll (n : Nat) (k : ByteArray) : ∀ (l : List Wtr) (t : St) (m : Nat), ((t.refuseAll n k l).cac m).clock = (t.cac m).clock
  | [], _, _ => rfl
  | x :: l, t, m => by
    have h1 : ((t.refused n k x).cac m).clock = (t.cac m).clock := by unfold Tier.St.cac; rw [Tier.len_refused]
    exact (cac_clock_refuseAll n k l (t.refused n k x) m).trans h1
theorem clock_uses (t : St) (n m : Nat) (e : Kept) : ((t.uses n e).cac m).clock = (t.cac m).clock := Tier.clock_set t n m _ rfl
theorem clock_told (t : St) (n m : Nat) (e : Kept) (x : Wtr) : ((t.toldBy n e x).cac m).clock = (t.cac m).clock := by
  have : (t.toldBy n e x).cac m = (t.uses n e).cac m := by unfold Tier.St.cac; rw [(Tier.told_parts t n e x).1]
  rw [this]; exact clock_uses t n m e
theorem cac_clock_tellAll (n : Nat) (k : ByteArray) : ∀ (l : List Wtr) (t : St) (m : Nat), ((t.tellAll n k l).cac m).clock = (t.cac m).clock
  | [], _, _ => rfl
  | x :: l, t, m => by
    have h1 : ((match t.entry n k with | some e => t.toldBy n e x | none => t).cac m).clock = (t.cac m).clock := by
      split
      · exact clock_told ..
      · rfl
    exact (cac_clock_tellAll n k l _ m).trans h1
theorem clock_sends (t : St) (n m : Nat) (k : ByteArray) (tag : Int) (l : List Wtr) : ((t.sends n k tag l).cac m).clock = (t.cac m).clock := Tier.clock_set t n m _ rfl
theorem clock_joins (t : St) (n m : Nat) (k : ByteArray) (x : Wtr) : ((t.joins n k x).cac m).clock = (t.cac m).clock := Tier.clock_set t n m _ rfl
theorem clock_refused (t : St) (n m : Nat) (k : ByteArray) (x : Wtr) : ((t.refused n k x).cac m).clock = (t.cac m).clock := by unfold Tier.St.cac; rw [Tier.len_refused]
theorem clock_wants (t : St) (n m : Nat) (k : ByteArray) (x : Wtr) : ((t.wants n k x).cac m).clock = (t.cac m).clock := by
  have h2 : ∀ tag, ((if t.c.waiters ≤ t.waiting n then t.refused n k x else if (t.fetch n k).isSome then t.joins n k x else t.sends n k tag [x]).cac m).clock = (t.cac m).clock := fun tag => by
    split
    · exact clock_refused ..
    · split
      · exact clock_joins ..
      · exact clock_sends ..
  unfold Tier.St.wants
  split
  · next e _ =>
    split
    · exact clock_told ..
    · exact h2 e.ver
  · exact h2 (-1)
theorem clock_comes (t : St) (x : Mes) (m : Nat) : ((t.comes x).cac m).clock = (t.cac m).clock := by
  unfold Tier.St.comes
  split
  · unfold Tier.St.answered
    split
    · rfl
    · split
      · rfl
      · split
        · rw [cac_clock_refuseAll]; exact Tier.clock_over ..
        · split
          · rw [clock_sends]; exact Tier.clock_over ..
          · dsimp only
            split
            · rw [cac_clock_tellAll, clock_uses]; exact Tier.clock_over ..
            · rw [cac_clock_refuseAll, clock_uses]; exact Tier.clock_over ..
  · split
    · exact clock_wants ..
    · unfold Tier.St.atOrigin
      dsimp only
      split <;> rfl
theorem clock_timeout (t : St) (n : Nat) (k : ByteArray) (m : Nat) : ((t.timeout n k).cac m).clock = (t.cac m).clock := by
  unfold Tier.St.timeout
  split
  · rfl
  · rw [cac_clock_refuseAll]; exact Tier.clock_over ..
theorem clock_settle : ∀ (j : Nat) (t : St) (m : Nat), ((settleF j t).1.cac m).clock = (t.cac m).clock
  | 0, _, _ => rfl
  | j + 1, t, m => by
    unfold settleF
    split
    · rfl
    · rw [clock_settle j _ m, clock_comes]; rfl
theorem clock_net (o : StepD) (t : St) (m : Nat) : ((netF o t).cac m).clock = (t.cac m).clock := by
  unfold netF
  split
  · rfl
  · split
    · rw [clock_comes]; rfl
    · split
      · rfl
      · split <;> rfl
theorem clock_step {o : StepD} (hk : o.kind ≠ 2) (h : Sh) (t : St) (m : Nat) : ((stepF o h t).2.cac m).clock = (t.cac m).clock := by
  unfold stepF
  by_cases k0 : o.kind = 0
  · rw [if_pos k0]; rfl
  rw [if_neg k0]
  by_cases k1 : o.kind = 1
  · rw [if_pos k1]; split <;> rfl
  rw [if_neg k1, if_neg hk]
  split
  · exact clock_wants ..
  split
  · exact clock_net ..
  split
  · exact clock_timeout ..
  split
  · exact Tier.clock_set t _ m _ rfl
  split
  · exact clock_settle ..
  · rfl

theorem c_settle : ∀ (j : Nat) (t : St), (settleF j t).1.c = t.c
  | 0, _ => rfl
  | j + 1, t => by
    unfold settleF
    split
    · rfl
    · rw [c_settle j, c_comes]; rfl
theorem c_net (o : StepD) (t : St) : (netF o t).c = t.c := by
  unfold netF
  split
  · rfl
  · split
    · rw [c_comes]; rfl
    · split
      · rfl
      · split <;> rfl
theorem c_pass (drift n b : Int) : ∀ (f k : Nat) (cl : List Int) (t : St), (passF drift n b f k cl t).2.c = t.c
  | 0, _, _, _ => rfl
  | f + 1, k, cl, t => by
    unfold passF
    split
    · rfl
    · exact (c_pass drift n b f (k + 1) _ _)
theorem c_step (o : StepD) (h : Sh) (t : St) : (stepF o h t).2.c = t.c := by
  unfold stepF
  by_cases k0 : o.kind = 0
  · rw [if_pos k0]; rfl
  rw [if_neg k0]
  by_cases k1 : o.kind = 1
  · rw [if_pos k1]; split <;> rfl
  rw [if_neg k1]
  split
  · exact c_pass ..
  split
  · exact c_wants ..
  split
  · exact c_net ..
  split
  · exact c_timeout ..
  split
  · rfl
  split
  · exact c_settle ..
  · rfl

theorem Agree.step {o : StepD} {h : Sh} {t : St} (a : Agree h t) (hk : o.kind ≠ 2) : Agree (stepF o h t).1 (stepF o h t).2 :=
  ⟨by rw [clocks_step hk, c_step]; exact a.len, fun k h0 h1 => by rw [c_step] at h1; rw [clocks_step hk, clock_step hk]; exact a.is k h0 h1, by rw [clocks_step hk]; exact a.zero⟩

theorem Kin.start (tm : Prop) (script : List StepD) {c : Conf} (hc : ConfOK c) : Kin tm script 0 ⟨0, List.replicate c.parents.length 0, [], [], false⟩ (Tier.new c) := by
  have hcac : ∀ n, (Tier.new c).cac n = Tier.noCac := fun n => by
    unfold Tier.St.cac Tier.new
    dsimp only
    by_cases hn : n < c.parents.length
    · rw [List.getD_eq_getElem?_getD, List.getElem?_replicate, if_pos hn]; rfl
    · rw [List.getD_eq_getElem?_getD, List.getElem?_replicate, if_neg hn]; rfl
  have hsays : ∀ g : Tier.G, Tier.Says (Tier.PE g) (Tier.PF g) (Tier.PM g) (Tier.PA g) (Tier.new c) := fun g =>
    ⟨fun n e he => (by rw [hcac] at he; cases he), fun n f hf => (by rw [hcac] at hf; cases hf), fun m hm => (by cases hm), fun a ha => (by cases ha)⟩
  refine ⟨⟨⟨⟨tm, [], 0, fun _ => 0, fun _ => Tier.empty, 0, c, fun _ => 0⟩, ⟨hsays _, fun k => ⟨Or.inl ⟨rfl, rfl, rfl⟩, fun r hr => by cases hr⟩, rfl, rfl, fun n => by rw [hcac]; rfl, by simp [Tier.new], hc.drift, hc.entries.1, hc.up⟩, ⟨List.Pairwise.nil, fun r hr => by cases hr⟩, rfl, rfl, rfl, fun id h0 h1 => by have h1 : id < 0 := h1; omega⟩, fun n => ?_, fun id => ?_, fun k => ⟨rfl, rfl⟩, rfl, ⟨Int.le_refl _, fun r hr => by cases hr⟩, hc.budget.1, by have := hc.waiters.1; show 0 ≤ c.waiters; omega, fun x hx => by cases hx⟩, rfl⟩
  · rw [hcac]
    exact ⟨List.Pairwise.nil, List.Pairwise.nil, by have := hc.entries.1; show ((0 : Nat) : Int) ≤ c.entries; omega, by have := hc.waiters.1; show ((0 : Nat) : Int) ≤ c.waiters; omega⟩
  · have : Tier.cnt id (Tier.new c) = 0 := by
      have : Tier.cc id (Tier.new c).caches = 0 := by
        unfold Tier.cc Tier.new
        dsimp only
        generalize c.parents.length = m
        induction m with
        | zero => rfl
        | succ m ih => rw [List.replicate_succ, List.map_cons, List.sum_cons, ih]; rfl
      show Tier.cc id (Tier.new c).caches + 0 = 0
      omega
    rw [this]
    exact Nat.zero_le _

/-- A list in which no element stands twice, each one of four. -/
theorem four_le {l : List ByteArray} (hn : l.Nodup) (h : ∀ x ∈ l, ∃ j, j < 4 ∧ x = keyI j) : l.length ≤ 4 := by
  have h1 : ∀ (a : ByteArray) (l : List ByteArray), l.Nodup → l.countP (fun x => decide (x = a)) ≤ 1 := by
    intro a l
    induction l with
    | nil => intro _; simp
    | cons x r ih =>
      intro hn
      obtain ⟨hx, hr⟩ := List.nodup_cons.1 hn
      rw [List.countP_cons]
      by_cases e : x = a
      · subst e
        have : r.countP (fun y => decide (y = x)) = 0 := List.countP_eq_zero.2 (fun y hy => by simp; intro e; subst e; exact hx hy)
        simp [this]
      · simp [e]; exact ih hr
  have h2 : ∀ l : List ByteArray, (∀ x ∈ l, ∃ j, j < 4 ∧ x = keyI j) → l.length ≤ l.countP (fun x => decide (x = keyI 0)) + l.countP (fun x => decide (x = keyI 1)) + l.countP (fun x => decide (x = keyI 2)) + l.countP (fun x => decide (x = keyI 3)) := by
    intro l
    induction l with
    | nil => intro _; simp
    | cons x r ih =>
      intro hx
      have ih := ih (fun y hy => hx y (List.mem_cons_of_mem _ hy))
      obtain ⟨j, hj, e⟩ := hx x List.mem_cons_self
      simp only [List.countP_cons, List.length_cons]
      have hj : j = 0 ∨ j = 1 ∨ j = 2 ∨ j = 3 := by omega
      rcases hj with rfl | rfl | rfl | rfl
      · rw [e, if_pos (decide_eq_true rfl)]; omega
      · rw [e, if_pos (decide_eq_true (rfl : keyI 1 = keyI 1))]; omega
      · rw [e, if_pos (decide_eq_true (rfl : keyI 2 = keyI 2))]; omega
      · rw [e, if_pos (decide_eq_true (rfl : keyI 3 = keyI 3))]; omega
  have := h2 l h
  have := h1 (keyI 0) l hn
  have := h1 (keyI 1) l hn
  have := h1 (keyI 2) l hn
  have := h1 (keyI 3) l hn
  omega

theorem TierAt.few {own : Own} {τ : Nat} {w : World} {bt b : Nat} {t : St} (h : TierAt own τ w bt b t) (h4 : ∀ x ∈ t.items, ∃ j, j < 4 ∧ x.key = keyI j) : t.items.length ≤ 4 := by
  obtain ⟨g, s, _, _, _, _, Q⟩ := h.is
  have hn : (s.recs.map (fun q : ByteArray × Rec => q.1)).Nodup := List.pairwise_map.2 Q.apart
  have hn2 : (t.items.map (fun y : Tier.Item => y.key)).Nodup := (Q.keys.nodup_iff).2 hn
  have := four_le hn2 (fun x hx => by
    obtain ⟨y, hy, rfl⟩ := List.mem_map.1 hx
    exact h4 y hy)
  simpa using this

end Go.Proofs.YtpdkojgepagbnaaDoor

namespace Go.Proofs.YtpdkojgepagbnaaDoor
set_option maxRecDepth 100000
open Go.RowKit
open Tier (Mes Ans Conf St Was)

variable {n0 : Nat} {own own' : Own} {w w' : World} {bs b : Nat} {t t' : St} {h h' : Sh}

/-- What a step wants of the play so far. -/
structure StepOK (o : StepD) (h : Sh) (t : St) : Prop where
  a : I64 o.a
  b : I64 o.b
  siz : ∃ n, Siz n h ∧ n ≤ 10000000000
  few : t.items.length < 16
  pres : (lastOf h.l (keyD o.a)).pres = (t.item (keyD o.a)).pres
  clk : ∀ j, j < h.clocks.length → 0 ≤ h.clocks.getD j 0 ∧ h.clocks.getD j 0 ≤ 1099511627776
  len : h.clocks.length = t.c.parents.length

theorem step_any (S : Shop n0 own w bs b t h) (hn : n0 ≤ w.heap.size) (hb : b + 500010 ≤ 1000000000000) (o : StepD) (k : StepOK o h t) :
    Calls Tryd.prog 17 #[.pointer (some ⟨bs, 0, none⟩), stepV o] w fun e w' => e = .returned (.bool true) ∧ Behind n0 own w bs (b + 500000) (stepF o h t).2 (stepF o h t).1 w' := by
  obtain ⟨n, sz, hn9⟩ := k.siz
  have hl := sz.l
  have hol := sz.opn
  have hnow := sz.now
  have hver := sz.last (keyD o.a)
  have up : ∀ {t2 : St} {h2 : Sh} {w2 : World}, Behind n0 own w bs (b + 5) t2 h2 w2 → Behind n0 own w bs (b + 500000) t2 h2 w2 := fun ⟨o2, S2, K2⟩ => ⟨o2, S2.mono (by omega), K2⟩
  by_cases k2 : o.kind = 2
  · exact step_pass S hn hb o k2 k.a k.b k.clk k.len (by omega)
  unfold stepF
  by_cases k0 : o.kind = 0
  · rw [if_pos k0]
    refine (step_write S hn (by omega) o k0 k.a (by omega) (by omega) k.few).mono ?_
    rintro e w2 ⟨rfl, B⟩
    exact ⟨rfl, up B⟩
  rw [if_neg k0]
  by_cases k1 : o.kind = 1
  · rw [if_pos k1]
    by_cases hp : (lastOf h.l (keyD o.a)).pres = 0
    · rw [if_pos hp]
      refine (step_remove0 S hn (by omega) o k1 k.a (by omega) (by omega) (by rw [← k.pres]; exact hp) hp).mono ?_
      rintro e w2 ⟨rfl, B⟩
      exact ⟨rfl, up B⟩
    · rw [if_neg hp]
      refine (step_remove1 S hn (by omega) o k1 k.a (by omega) (by omega) (by rw [← k.pres]; exact hp) hp).mono ?_
      rintro e w2 ⟨rfl, B⟩
      exact ⟨rfl, up B⟩
  rw [if_neg k1, if_neg k2]
  by_cases k3 : o.kind = 3
  · rw [if_pos k3]
    exact step_ask S hn hb o k3 k.a k.b (by omega)
  rw [if_neg k3]
  by_cases k4 : o.kind = 4 ∨ o.kind = 5 ∨ o.kind = 6
  · rw [if_pos k4]
    exact step_net S hn hb o k4 k.a
  rw [if_neg k4]
  by_cases k7 : o.kind = 7
  · rw [if_pos k7]
    exact step_timeout S hn hb o k7 k.a k.b
  rw [if_neg k7]
  by_cases k8 : o.kind = 8
  · rw [if_pos k8]
    exact step_crash S hn hb o k8 k.a k.b
  rw [if_neg k8]
  by_cases k9 : o.kind = 9
  · rw [if_pos k9]
    exact step_settle S hn hb o k9 k.a k.b
  rw [if_neg k9]
  exact step_other S o (by omega)

end Go.Proofs.YtpdkojgepagbnaaDoor
