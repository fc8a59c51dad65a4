/-
  A right configuration out of a raw one.
-/
import Derived.Test.YtpdkojgepagbnaaDoorJ26
import Derived.Test.YtpdkojgepagbnaaDoorJ05
import Derived.Test.YtpdkojgepagbnaaDoorJ27
import Derived.Test.YtpdkojgepagbnaaDoorJ25
import Derived.Deep.RegionHeld3
namespace Go.Proofs.YtpdkojgepagbnaaDoor
set_option maxRecDepth 100000
open Go.RowKit
open Tier (Mes Ans Conf St Was)
attribute [local go_sem ↓] Go.wp_at_zero Go.wp_at_succ

/-- What lies in memory while the parents are chosen: the raw configuration's box, the result's place, the new one's. -/
structure ConfLoop (w0 w : World) (a : Option Addr) (n cap : Nat) (bc : Nat) (c : Conf) (acc : List Int) (v : Value) : Prop where
  turn : Turn nothing w0 w
  raw : w.cell? ⟨w0.heap.size, 0, none⟩ = some (.slice a n cap)
  res : There w (w0.heap.size + 1) 5
  lo : w0.heap.size + 2 ≤ bc
  blk : w.heap[bc]? = some (.cells #[v, .int .i64 c.drift, .int .i64 c.budget, .int .i64 c.entries, .int .i64 c.waiters] 27 (0, 0))
  row : w.ownsRow (w0.heap.size + 2) 3 1 v acc.length (acc.map fun z => .int .i64 z)
  ne : v.ownBlock ≠ some bc

theorem ConfLoop.goes {w0 w w' : World} {a : Option Addr} {n cap bc : Nat} {c : Conf} {acc : List Int} {v : Value} (h : ConfLoop w0 w a n cap bc c acc v) (T : Turn nothing w w') : ConfLoop w0 w' a n cap bc c acc v :=
  ⟨h.1.step_turn T (fun _ _ h => h), T.cell h.raw id, h.res.turn T id, h.lo, (T.block _ (heap_lt h.blk) id).trans h.blk, owns_turn h.row T (fun _ _ h => h), h.ne⟩

theorem conf_start_a {w W0 : World} {a : Option Addr} {n cap : Nat} {c : Conf} (T0 : Turn nothing w W0) (b1 : There W0 (w.heap.size + 1) 5) (x0 : W0.cell? ⟨w.heap.size, 0, none⟩ = some (.slice a n cap)) (hsz : W0.heap.size = w.heap.size + 1 + 1) :
    ConfLoop w ((W0.alloc (.cells #[.int .i64 (-1), .int .i64 0] 3)).alloc (.cells #[.slice (some ⟨w.heap.size + 1 + 1, 0, none⟩) 2 2, .int .i64 c.drift, .int .i64 c.budget, .int .i64 c.entries, .int .i64 c.waiters] 27)).drew a n cap (w.heap.size + 1 + 1 + 1) c [-1, 0] (.slice (some ⟨w.heap.size + 1 + 1, 0, none⟩) 2 2) := by
  have T1 : Turn nothing W0 ((W0.alloc (.cells #[.int .i64 (-1), .int .i64 0] 3)).alloc (.cells #[.slice (some ⟨w.heap.size + 1 + 1, 0, none⟩) 2 2, .int .i64 c.drift, .int .i64 c.budget, .int .i64 c.entries, .int .i64 c.waiters] 27)).drew := (Turn.alloc _ _ _).step_alloc.step_drew
  refine ⟨T0.step_turn T1 (fun _ _ h => h), T1.cell x0 id, b1.turn T1 id, by omega, ?_, ⟨rfl, Or.inr ⟨w.heap.size + 1 + 1, 2, #[.int .i64 (-1), .int .i64 0], rfl, Nat.le_refl _, ?_, Nat.le_refl _, by unfold maxLen; omega, rfl, rfl⟩⟩, fun e => ?_⟩
  · have := new2_1 W0 (.cells #[.int .i64 (-1), .int .i64 0] 3) (.cells #[.slice (some ⟨w.heap.size + 1 + 1, 0, none⟩) 2 2, .int .i64 c.drift, .int .i64 c.budget, .int .i64 c.entries, .int .i64 c.waiters] 27)
    rw [hsz] at this
    exact this
  · have := new2_0 W0 (.cells #[.int .i64 (-1), .int .i64 0] 3) (.cells #[.slice (some ⟨w.heap.size + 1 + 1, 0, none⟩) 2 2, .int .i64 c.drift, .int .i64 c.budget, .int .i64 c.entries, .int .i64 c.waiters] 27)
    rw [hsz] at this
    exact this
  · have : w.heap.size + 1 + 1 = w.heap.size + 1 + 1 + 1 := Option.some.inj e
    omega
theorem conf_start_b {w W0 : World} {a : Option Addr} {n cap : Nat} {c : Conf} (T0 : Turn nothing w W0) (b1 : There W0 (w.heap.size + 1) 5) (x0 : W0.cell? ⟨w.heap.size, 0, none⟩ = some (.slice a n cap)) (hsz : W0.heap.size = w.heap.size + 1 + 1) :
    ConfLoop w ((W0.alloc (.cells #[.slice (some ⟨w.heap.size + 1 + 1 + 1, 0, none⟩) 2 2, .int .i64 c.drift, .int .i64 c.budget, .int .i64 c.entries, .int .i64 c.waiters] 27)).alloc (.cells #[.int .i64 (-1), .int .i64 0] 3)).drew a n cap (w.heap.size + 1 + 1) c [-1, 0] (.slice (some ⟨w.heap.size + 1 + 1 + 1, 0, none⟩) 2 2) := by
  have T1 : Turn nothing W0 ((W0.alloc (.cells #[.slice (some ⟨w.heap.size + 1 + 1 + 1, 0, none⟩) 2 2, .int .i64 c.drift, .int .i64 c.budget, .int .i64 c.entries, .int .i64 c.waiters] 27)).alloc (.cells #[.int .i64 (-1), .int .i64 0] 3)).drew := (Turn.alloc _ _ _).step_alloc.step_drew
  refine ⟨T0.step_turn T1 (fun _ _ h => h), T1.cell x0 id, b1.turn T1 id, by omega, ?_, ⟨rfl, Or.inr ⟨w.heap.size + 1 + 1 + 1, 2, #[.int .i64 (-1), .int .i64 0], rfl, by omega, ?_, Nat.le_refl _, by unfold maxLen; omega, rfl, rfl⟩⟩, fun e => ?_⟩
  · have := new2_0 W0 (.cells #[.slice (some ⟨w.heap.size + 1 + 1 + 1, 0, none⟩) 2 2, .int .i64 c.drift, .int .i64 c.budget, .int .i64 c.entries, .int .i64 c.waiters] 27) (.cells #[.int .i64 (-1), .int .i64 0] 3)
    rw [hsz] at this
    exact this
  · have := new2_1 W0 (.cells #[.slice (some ⟨w.heap.size + 1 + 1 + 1, 0, none⟩) 2 2, .int .i64 c.drift, .int .i64 c.budget, .int .i64 c.entries, .int .i64 c.waiters] 27) (.cells #[.int .i64 (-1), .int .i64 0] 3)
    rw [hsz] at this
    exact this
  · have : w.heap.size + 1 + 1 + 1 = w.heap.size + 1 + 1 := Option.some.inj e
    omega

set_option maxHeartbeats 8000000 in
theorem config_any (a : Option Addr) (cap : Nat) (zs : List Int) (dr bu en wa : Int) (w : World) (hz : zs.length ≤ 1000000000000) (hs : SliceAt w a zs) (hzi : ∀ z ∈ zs, I64 z) (h1 : I64 dr) (h2 : I64 bu) (h3 : I64 en) (h4 : I64 wa) :
    Calls Tryd.prog 39 #[.agg #[.slice a zs.length cap, .int .i64 dr, .int .i64 bu, .int .i64 en, .int .i64 wa]] w fun r w' => ∃ v, r = .returned (.agg #[v, .int .i64 (confD zs dr bu en wa).drift, .int .i64 (confD zs dr bu en wa).budget, .int .i64 (confD zs dr bu en wa).entries, .int .i64 (confD zs dr bu en wa).waiters]) ∧ Turn nothing w w' ∧ w'.ownsRow w.heap.size 3 1 v (confD zs dr bu en wa).parents.length ((confD zs dr bu en wa).parents.map fun z => .int .i64 z) := by
  have HS := hide hs
  have HZI := hide hzi
  have HZ := hide hz
  have K1 := hide (fun w' => pick_i64 dr 500001 w' h1 (by decide))
  have K2 := hide (fun w' => pick_i64 bu 1000000 w' h2 (by decide))
  have K3 := hide (fun w' => pick_i64 en 4 w' h3 (by decide))
  have K4 := hide (fun w' => pick_i64 wa 4 w' h4 (by decide))
  have p1 := pickN_ok dr (n := 500001) (by decide)
  have p2 := pickN_ok bu (n := 1000000) (by decide)
  have p3 := pickN_ok en (n := 4) (by decide)
  have p4 := pickN_ok wa (n := 4) (by decide)
  have hw2 : IntKind.i64.wrap (1 + pickN bu 1000000) = 1 + pickN bu 1000000 := by rw [IntKind.wrap_i64]; omega
  have hw3 : IntKind.i64.wrap (1 + pickN en 4) = 1 + pickN en 4 := by rw [IntKind.wrap_i64]; omega
  have hw4 : IntKind.i64.wrap (1 + pickN wa 4) = 1 + pickN wa 4 := by rw [IntKind.wrap_i64]; omega
  obtain ⟨P, hP⟩ : ∃ P, P = parF [-1, 0] zs := ⟨_, rfl⟩
  have e : confD zs dr bu en wa = ⟨P, pickN dr 500001, 1 + pickN bu 1000000, 1 + pickN en 4, 1 + pickN wa 4⟩ := by rw [hP]; rfl
  rw [e]
  dsimp only
  generalize pickN dr 500001 = q1 at *
  generalize pickN bu 1000000 = q2 at *
  generalize pickN en 4 = q3 at *
  generalize pickN wa 4 = q4 at *
  clear hs hz hzi h1 h2 h3 h4 p1 p2 p3 p4 e
  go_enter Tryd.func39, Tryd.ntmps39
  go_wp2
  generalize hW : World.alloc _ _ = W0
  have T0 : Turn nothing w W0 := by rw [← hW]; exact (Turn.alloc _ _ _).step_alloc
  have hsz : W0.heap.size = w.heap.size + 1 + 1 := by rw [← hW]; simp
  have x0 : ∃ ty, W0.heap[w.heap.size]? = some (.cells #[.slice a zs.length cap, .int .i64 dr, .int .i64 bu, .int .i64 en, .int .i64 wa] ty (0, 0)) := by rw [← hW]; exact ⟨_, new2_0 _ _ _⟩
  have x0_0 : W0.cell? ⟨w.heap.size, 0, none⟩ = some (.slice a zs.length cap) := by obtain ⟨_, h⟩ := x0; exact cell_of_cells h 0
  have x0_1 : W0.cell? ⟨w.heap.size, 1, none⟩ = some (.int .i64 dr) := by obtain ⟨_, h⟩ := x0; exact cell_of_cells h 1
  have x0_2 : W0.cell? ⟨w.heap.size, 2, none⟩ = some (.int .i64 bu) := by obtain ⟨_, h⟩ := x0; exact cell_of_cells h 2
  have x0_3 : W0.cell? ⟨w.heap.size, 3, none⟩ = some (.int .i64 en) := by obtain ⟨_, h⟩ := x0; exact cell_of_cells h 3
  have x0_4 : W0.cell? ⟨w.heap.size, 4, none⟩ = some (.int .i64 wa) := by obtain ⟨_, h⟩ := x0; exact cell_of_cells h 4
  have b1 : There W0 (w.heap.size + 1) 5 := by rw [← hW]; exact There.new (by simp) (by simp)
  clear hW
  have HB1 := hide b1
  have HT0 := hide T0
  have hsz' := hide hsz
  clear b1
  go_cut [3] from 5 to 49 (fun s3 wx => ∃ bc v, s3 = .pointer (some ⟨bc, 0, none⟩) ∧ Hid (ConfLoop w wx a zs.length cap bc ⟨[], q1, 1 + q2, 1 + q3, 1 + q4⟩ [-1, 0] v))
  case first =>
    have HS : ∀ w', Turn nothing W0 w' → Turn nothing W0 w' ∧ w'.cell? ⟨w.heap.size, 0, none⟩ = some (.slice a zs.length cap) ∧ w'.cell? ⟨w.heap.size, 1, none⟩ = some (.int .i64 dr) ∧ w'.cell? ⟨w.heap.size, 2, none⟩ = some (.int .i64 bu) ∧ w'.cell? ⟨w.heap.size, 3, none⟩ = some (.int .i64 en) ∧ w'.cell? ⟨w.heap.size, 4, none⟩ = some (.int .i64 wa) := fun w' T => ⟨T, T.cell x0_0 id, T.cell x0_1 id, T.cell x0_2 id, T.cell x0_3 id, T.cell x0_4 id⟩
    go_region_held3 (fun w' => Turn nothing W0 w' ∧ w'.cell? ⟨w.heap.size, 0, none⟩ = some (.slice a zs.length cap) ∧ w'.cell? ⟨w.heap.size, 1, none⟩ = some (.int .i64 dr) ∧ w'.cell? ⟨w.heap.size, 2, none⟩ = some (.int .i64 bu) ∧ w'.cell? ⟨w.heap.size, 3, none⟩ = some (.int .i64 en) ∧ w'.cell? ⟨w.heap.size, 4, none⟩ = some (.int .i64 wa)) ((go_split_ands; apply HS; all_goals (repeat (first | with_reducible assumption | with_reducible exact Turn.refl _ _ | with_reducible apply Turn.step_alloc | with_reducible apply Turn.step_drew | ((with_reducible refine Turn.step_turn (N := nothing) ?_ (by assumption) ?_); rotate_left; · exact fun _ _ h => False.elim h) | ((with_reducible refine Turn.step_set ?_ ?_); rotate_left; · first | exact Or.inr rfl | exact Or.inr (Or.inl rfl) | exact Or.inl (by simp <;> omega)) | ((with_reducible refine Turn.step_turn ?_ (Turn.grown (by assumption)) ?_); rotate_left; · exact fun _ _ h => Or.inr h) | with_reducible apply There.drew | with_reducible apply There.set | ((with_reducible refine There.turn ?_ (by assumption) ?_); rotate_left; · exact id) | assumption)))) (first | (go_at_call_of 13 (Value.int .i64 dr); go_split_ands; refine (unhide K1 _).mono ?_; rintro e w7 ⟨rfl, rfl⟩) | (go_at_call_of 13 (Value.int .i64 bu); go_split_ands; refine (unhide K2 _).mono ?_; rintro e w7 ⟨rfl, rfl⟩) | (go_at_call_of 13 (Value.int .i64 en); go_split_ands; refine (unhide K3 _).mono ?_; rintro e w7 ⟨rfl, rfl⟩) | (go_at_call_of 13 (Value.int .i64 wa); go_split_ands; refine (unhide K4 _).mono ?_; rintro e w7 ⟨rfl, rfl⟩))
    all_goals clear HS
    all_goals go_wp2
    all_goals go_meet
    all_goals first
      | exact ⟨_, _, rfl, conf_start_a (c := ⟨[], q1, 1 + q2, 1 + q3, 1 + q4⟩) (unhide HT0) (unhide HB1) x0_0 (unhide hsz')⟩
      | exact ⟨_, _, rfl, conf_start_b (c := ⟨[], q1, 1 + q2, 1 + q3, 1 + q4⟩) (unhide HT0) (unhide HB1) x0_0 (unhide hsz')⟩
  case rest =>
    obtain ⟨bc, v0, rfl, HR0⟩ := hcut
    rename World => Z
    clear K1 K2 K3 K4 hw2 hw3 hw4 HB1 HT0 hsz' x0 x0_0 x0_1 x0_2 x0_3 x0_4 T0 hsz
    go_wp2
    go_loopw [4] (fun i wr => ∃ (j : Nat) (acc : List Int) (v : Value), j ≤ zs.length ∧ i = .int .i64 (j : Int) ∧ Hid (ConfLoop w wr a zs.length cap bc ⟨[], q1, 1 + q2, 1 + q3, 1 + q4⟩ acc v) ∧ Hid (P = parF acc (zs.drop j)) ∧ Hid (2 ≤ acc.length ∧ acc.length ≤ 6)) (fun i _ => zs.length - (intOf i).toNat)
    case atStart => exact ⟨0, [-1, 0], v0, Nat.zero_le _, rfl, HR0, by show P = _; rw [hP]; rfl, by show 2 ≤ 2 ∧ 2 ≤ 6; decide⟩
    case round =>
      clear HR0 hP
      obtain ⟨j, acc, v, jn, rfl, HR, HP, HL⟩ := hrel
      obtain ⟨va, vc, hv⟩ := row_form (unhide HR).row
      subst hv
      have d0 := (unhide HR).raw
      have c0 : wr.cell? ⟨bc, 0, none⟩ = some (.slice va acc.length vc) := cell_of_cells (unhide HR).blk 0
      have f0 : wr.frozen? ⟨bc, 0, none⟩ = false := frozen_of_cells (unhide HR).blk 0
      by_cases hgo : j < zs.length ∧ acc.length < 6
      · obtain ⟨z, hz⟩ : ∃ z, zs[j]? = some z := ⟨_, List.getElem?_eq_getElem hgo.1⟩
        have hpar : Hid (P = parF (acc ++ [pickN z acc.length]) (zs.drop (j + 1))) := by
          show P = _
          rw [unhide HP, List.drop_eq_getElem_cons hgo.1, (List.getElem?_eq_some_iff.1 hz).2]
          show (if acc.length < 6 then _ else _) = _
          rw [if_pos hgo.2]
        obtain ⟨eb, eoff, rfl, hrow⟩ := unhide HS (by omega)
        have ec0 : w.cell? ⟨eb, eoff + j, none⟩ = some (.int .i64 z) := by
          rw [hrow j hgo.1, List.getD_eq_getElem?_getD, hz]; rfl
        have ec := (unhide HR).turn.cell ec0 id
        have hebw : eb < w.heap.size := cell_lt ec0
        have HL2 := hide (unhide HL)
        have KPk := hide (fun w' => pick_i64 z acc.length w' (unhide HZI z (List.mem_of_getElem? hz)) (by have := unhide HL; omega))
        have hpos : (0 : Int) < (acc.length : Int) := by have := unhide HL; omega
        generalize hpz : pickN z acc.length = pz at *
        have hwj : IntKind.i64.wrap ((j : Int) + 1) = (j : Int) + 1 := by have := unhide HZ; rw [IntKind.wrap_i64]; omega
        have j0 : (0 : Int) ≤ (j : Int) := by omega
        have j1 : (j : Int) < (zs.length : Int) := by omega
        have j2 : (acc.length : Int) < 6 := by omega
        have hjl := hgo.1
        have hal := hgo.2
        obtain ⟨i0, hi, hz0, hz1, hz2⟩ := info_parts infoI
        clear hrow ec0 hz hgo
        go_wp2
        have hbX : bc < wr.heap.size := heap_lt (unhide HR).blk
        have c0a : ∀ o, (wr.alloc o).cell? ⟨bc, 0, none⟩ = some (.slice va acc.length vc) := fun o => (Turn.alloc nothing wr o).cell c0 id
        have hN := hide (unhide HR).row
        have hNb : Hid (∀ k', some k' = (Value.slice va acc.length vc).ownBlock → w.heap.size + 2 ≤ k' ∧ k' ≠ bc) := fun k' hk' => ⟨((unhide HR).row.lt k' hk'.symm).1, fun e => (unhide HR).ne (by rw [← hk', e])⟩
        have hlo := (unhide HR).lo
        have HNX : Hid (∀ gb cap2 w5, w5.ownsRow (w.heap.size + 2) 3 1 (.slice (some ⟨gb, 0, none⟩) (acc.length + 1) cap2) (acc.length + 1) ((acc.map fun z => Value.int .i64 z) ++ [.int .i64 pz]) → ((wr.alloc (.cells #[.int .i64 pz] 3)).drew).grownBy w5 (Value.slice va acc.length vc).ownBlock → ((Value.slice va acc.length vc).ownBlock = some gb ∨ gb = wr.heap.size + 1) → gb < w5.heap.size → Hid (ConfLoop w (w5.setCell ⟨bc, 0, none⟩ (.slice (some ⟨gb, 0, none⟩) (acc.length + 1) cap2)) (some ⟨eb, eoff, none⟩) zs.length cap bc ⟨[], q1, 1 + q2, 1 + q3, 1 + q4⟩ (acc ++ [pz]) (.slice (some ⟨gb, 0, none⟩) (acc.length + 1) cap2))) := by
          intro gb cap2 w5 hown hgrow hat hlt
          have hR := unhide HR
          have TA : Turn nothing wr ((wr.alloc (.cells #[.int .i64 pz] 3)).drew) := (Turn.alloc _ _ _).step_drew
          have T5 : Turn (fun k' => some k' = (Value.slice va acc.length vc).ownBlock) wr w5 := (TA.mono (fun _ _ h => h.elim)).step_turn (Turn.grown hgrow) (fun _ _ h => h)
          have T6 : Turn (fun k' => k' = bc ∨ some k' = (Value.slice va acc.length vc).ownBlock) wr (w5.setCell ⟨bc, 0, none⟩ (.slice (some ⟨gb, 0, none⟩) (acc.length + 1) cap2)) := (T5.mono (fun _ _ h => Or.inr h)).step_set (Or.inr (Or.inl rfl))
          have hno : ∀ k', k' < w.heap.size + 2 → ¬ (k' = bc ∨ some k' = (Value.slice va acc.length vc).ownBlock) := fun k' hk' h => h.elim (fun e => by omega) (fun e => by have := (unhide hNb k' e).1; omega)
          have hgb : gb ≠ bc := fun e => by
            rcases hat with h | h
            · exact hR.ne (by rw [h, e])
            · omega
          refine ⟨hR.turn.step_turn T6 (fun k' hk' h => absurd h (hno k' (by omega))), T6.cell hR.raw (hno _ (by dsimp only; omega)), hR.res.turn T6 (hno _ (by omega)), hR.lo, ?_, ?_, fun e => hgb (Option.some.inj e)⟩
          · have h5 : w5.heap[bc]? = some (.cells #[.slice va acc.length vc, .int .i64 q1, .int .i64 (1 + q2), .int .i64 (1 + q3), .int .i64 (1 + q4)] 27 (0, 0)) := (T5.block bc hbX (fun e => (unhide hNb bc e).2 rfl)).trans hR.blk
            rw [heap_set h5]; rfl
          · have h7 := owns_turn (M := fun k' => k' = bc) hown ((Turn.refl _ _).step_set (p := ⟨bc, 0, none⟩) (v := .slice (some ⟨gb, 0, none⟩) (acc.length + 1) cap2) (Or.inr rfl)) (fun k' hk' e => hgb ((show gb = k' from Option.some.inj hk').trans e))
            rw [List.length_append, List.map_append]
            exact h7
        have hxs : Hid ((acc.map fun z => Value.int .i64 z) = (acc.map fun z => Value.int .i64 z)) := rfl
        generalize (acc.map fun z => Value.int .i64 z) = xs at *
        have hne0 : ¬ (w.heap.size = bc ∨ some w.heap.size = (Value.slice va acc.length vc).ownBlock) := fun h => h.elim (fun e => by omega) (fun e => by have := (unhide hNb _ e).1; omega)
        have hneb : ¬ (eb = bc ∨ some eb = (Value.slice va acc.length vc).ownBlock) := fun h => h.elim (fun e => by omega) (fun e => by have := (unhide hNb _ e).1; omega)
        have HSx : ∀ w', Turn1 (fun k' => k' = bc ∨ some k' = (Value.slice va acc.length vc).ownBlock) bc 0 wr w' → Turn1 (fun k' => k' = bc ∨ some k' = (Value.slice va acc.length vc).ownBlock) bc 0 wr w' ∧ w'.cell? ⟨w.heap.size, 0, none⟩ = some (.slice (some ⟨eb, eoff, none⟩) zs.length cap) ∧ w'.cell? ⟨eb, eoff + j, none⟩ = some (.int .i64 z) := fun w' T => ⟨T, T.turn.cell d0 hne0, T.turn.cell ec hneb⟩
        refine wp_region_noPanic ?_
        refine wp_region_held_drew (S := fun w' => Turn1 (fun k' => k' = bc ∨ some k' = (Value.slice va acc.length vc).ownBlock) bc 0 wr w' ∧ w'.cell? ⟨w.heap.size, 0, none⟩ = some (.slice (some ⟨eb, eoff, none⟩) zs.length cap) ∧ w'.cell? ⟨eb, eoff + j, none⟩ = some (.int .i64 z)) (by kernel_rfl) (HSx _ (Turn1.refl hbX).step_drew) (fun hHeld => ?_)
        refine wpAnyH_take (i := 0) (v := ?_) rfl (by kernel_rfl) (by kernel_rfl) (by kernel_rfl) (fun _ _ _ h => h) (Or.inl ⟨by rfl, ?hy⟩) (by assumption) ?_
        case hy => intro w hSw; (try dsimp only at hSw); go_simp; (try with_reducible rfl)
        (try go_frame)
        refine wpAnyH_take (i := 2) (v := ?_) rfl (by kernel_rfl) (by kernel_rfl) (by kernel_rfl) (fun _ _ _ h => h) (Or.inl ⟨by rfl, ?hy⟩) (by assumption) ?_
        case hy => intro w hSw; (try dsimp only at hSw); go_simp; (try with_reducible rfl)
        (try go_frame)
        refine wpAnyH_take (i := 3) (v := ?_) rfl (by kernel_rfl) (by kernel_rfl) (by kernel_rfl) (fun _ _ _ h => h) (Or.inl ⟨by rfl, ?hy⟩) (by assumption) ?_
        case hy => intro w hSw; (try dsimp only at hSw); go_simp; (try with_reducible rfl)
        (try go_frame)
        refine wpAnyH_take (i := 4) (v := ?_) rfl (by kernel_rfl) (by kernel_rfl) (by kernel_rfl) (fun _ _ _ h => h) (Or.inl ⟨by rfl, ?hy⟩) (by assumption) ?_
        case hy => intro w hSw; (try dsimp only at hSw); go_simp; (try with_reducible rfl)
        (try go_frame)
        refine wpAnyH_take (i := 5) (v := ?_) rfl (by kernel_rfl) (by kernel_rfl) (by kernel_rfl) (fun _ _ _ h => h) (Or.inl ⟨by rfl, ?hy⟩) (by assumption) ?_
        case hy => intro w hSw; (try dsimp only at hSw); go_simp; (try with_reducible rfl)
        (try go_frame)
        refine wpAnyH_take (i := 6) (v := ?_) rfl (by kernel_rfl) (by kernel_rfl) (by kernel_rfl) (fun _ _ _ h => h) (Or.inl ⟨by rfl, ?hy⟩) (by assumption) ?_
        case hy => intro w hSw; (try dsimp only at hSw); go_simp; (try with_reducible rfl)
        (try go_frame)
        refine wpAnyH_take (i := 7) (v := ?_) rfl (by kernel_rfl) (by kernel_rfl) (by kernel_rfl) (fun _ _ _ h => h) (Or.inl ⟨by rfl, ?hy⟩) (by assumption) ?_
        case hy => intro w hSw; (try dsimp only at hSw); go_simp; (try with_reducible rfl)
        (try go_frame)
        refine wpAnyH_ready (rs := [1, 8]) (by kernel_rfl) (by simp) ?_
        refine AllReadyH.cons rfl (fun K hK => ?_) (AllReadyH.cons rfl (fun K hK => ?_) (AllReadyH.nil))
        · go_simp
          refine hK.out _ _ (HSx _ (Turn1.refl hbX).step_drew) (fun hHeld => ?_)
          clear hK K
          refine wpAnyH_ready (rs := [8]) (by kernel_rfl) (by simp) ?_
          refine AllReadyH.cons rfl (fun K hK => ?_) (AllReadyH.nil)
          go_simp
          refine hK.out _ _ (HSx _ (Turn1.refl hbX).step_drew) (fun hHeld => ?_)
          clear hK K
          refine wpAnyH_take (i := 9) (v := ?_) rfl (by kernel_rfl) (by kernel_rfl) (by kernel_rfl) (fun _ _ _ h => h) (Or.inl ⟨by rfl, ?hy⟩) (by assumption) ?_
          case hy => intro w hSw; (try dsimp only at hSw); go_simp; (try with_reducible rfl)
          (try go_frame)
          refine wpAnyH_ready (rs := [10]) (by kernel_rfl) (by simp) ?_
          refine AllReadyH.cons rfl (fun K hK => ?_) (AllReadyH.nil)
          go_simp
          refine (unhide KPk _).mono ?_
          rintro e w7 ⟨rfl, rfl⟩
          refine hK.out _ _ (HSx _ (Turn1.refl hbX).step_drew) (fun hHeld => ?_)
          clear hK K
          refine wpAnyH_ready (rs := [11]) (by kernel_rfl) (by simp) ?_
          refine AllReadyH.cons rfl (fun K hK => ?_) (AllReadyH.nil)
          go_simp
          refine hK.out _ _ (HSx _ (Turn1.refl hbX).step_alloc.step_drew) (fun hHeld => ?_)
          clear hK K
          refine wpAnyH_ready (rs := [12]) (by kernel_rfl) (by simp) ?_
          refine AllReadyH.cons rfl (fun K hK => ?_) AllReadyH.nil
          refine step_append_lies _ (by rfl) _ _ _ (by rfl) (w.heap.size + 2) 3 i0 _ 1 8 Tryd.underlying25 hi hz0 hz1 hz2 rfl (by omega) (.slice va acc.length vc) acc.length xs (by rfl) ((unhide hN).alloc _).drew ⟨wr.heap.size, 0, none⟩ 1 1 [.int .i64 pz] (by rfl) (by rfl) (World.news_of_block (cs := #[.int .i64 pz]) (t := 3) (fr := (0, 0)) (new1_0 wr _)) (by simp [Value.oneCell']) (by omega) (by unfold maxLen; omega) (by omega) (by have := (unhide HR).turn.size; have := cell_lt (unhide HR).raw; have := cell_lt (cell_of_cells (unhide HR).blk 0); simp; omega) (wr.heap.size + 1) (by simp) ?_
          intro gb cap2 w5 hown1 hgrow hat hlt
          have q0 := far_cell hgrow c0 (fun e => (unhide hNb _ e).2 rfl)
          have q0f := far_froz hgrow c0 f0 (fun e => (unhide hNb _ e).2 rfl)
          have TG : Turn1 (fun k' => k' = bc ∨ some k' = (Value.slice va acc.length vc).ownBlock) bc 0 wr w5 := (Turn1.refl hbX).step_alloc.step_drew.step_turn (Turn.grown hgrow) (fun _ _ h => Or.inr h) (fun e => (unhide hNb _ e).2 rfl)
          refine hK.out _ _ (HSx _ TG) (fun hHeld => ?_)
          clear hK K
          refine wpAnyH_take (i := 13) (v := ?_) rfl (by kernel_rfl) (by kernel_rfl) (by kernel_rfl) (fun _ _ _ h => h) (Or.inl ⟨by rfl, ?hy⟩) (by assumption) ?_
          case hy => intro w hSw; (try dsimp only at hSw); go_simp; (try with_reducible rfl)
          (try go_frame)
          refine wpAnyH_ready (rs := [14]) (by kernel_rfl) (by simp) ?_
          refine AllReadyH.cons rfl (fun K hK => ?_) AllReadyH.nil
          go_simp
          refine hK.out _ _ (HSx _ (TG.step_set (Or.inl rfl))) (fun hHeld => ?_)
          clear hK K
          refine wpAnyH_done (by kernel_rfl) ?_ _
          refine NoPanic.normal ?_
          have HR2 := unhide HNX gb cap2 w5 hown1 hgrow hat hlt
          clear hown1 hgrow hat hlt TG q0 q0f hHeld HNX HSx hN c0a KPk
          go_wp2
          go_roundw
          case rel => exact ⟨j + 1, acc ++ [pz], _, by omega, by simp, HR2, hpar, by have := unhide HL2; rw [List.length_append]; show 2 ≤ acc.length + 1 ∧ acc.length + 1 ≤ 6; omega⟩
          case measure => simp [intOf]; omega
        · go_simp
          refine hK.out _ _ (HSx _ (Turn1.refl hbX).step_drew) (fun hHeld => ?_)
          clear hK K
          refine wpAnyH_take (i := 9) (v := ?_) rfl (by kernel_rfl) (by kernel_rfl) (by kernel_rfl) (fun _ _ _ h => h) (Or.inl ⟨by rfl, ?hy⟩) (by assumption) ?_
          case hy => intro w hSw; (try dsimp only at hSw); go_simp; (try with_reducible rfl)
          (try go_frame)
          refine wpAnyH_ready (rs := [1, 10]) (by kernel_rfl) (by simp) ?_
          refine AllReadyH.cons rfl (fun K hK => ?_) (AllReadyH.cons rfl (fun K hK => ?_) (AllReadyH.nil))
          · go_simp
            refine hK.out _ _ (HSx _ (Turn1.refl hbX).step_drew) (fun hHeld => ?_)
            clear hK K
            refine wpAnyH_ready (rs := [10]) (by kernel_rfl) (by simp) ?_
            refine AllReadyH.cons rfl (fun K hK => ?_) (AllReadyH.nil)
            go_simp
            refine (unhide KPk _).mono ?_
            rintro e w7 ⟨rfl, rfl⟩
            refine hK.out _ _ (HSx _ (Turn1.refl hbX).step_drew) (fun hHeld => ?_)
            clear hK K
            refine wpAnyH_ready (rs := [11]) (by kernel_rfl) (by simp) ?_
            refine AllReadyH.cons rfl (fun K hK => ?_) (AllReadyH.nil)
            go_simp
            refine hK.out _ _ (HSx _ (Turn1.refl hbX).step_alloc.step_drew) (fun hHeld => ?_)
            clear hK K
            refine wpAnyH_ready (rs := [12]) (by kernel_rfl) (by simp) ?_
            refine AllReadyH.cons rfl (fun K hK => ?_) AllReadyH.nil
            refine step_append_lies _ (by rfl) _ _ _ (by rfl) (w.heap.size + 2) 3 i0 _ 1 8 Tryd.underlying25 hi hz0 hz1 hz2 rfl (by omega) (.slice va acc.length vc) acc.length xs (by rfl) ((unhide hN).alloc _).drew ⟨wr.heap.size, 0, none⟩ 1 1 [.int .i64 pz] (by rfl) (by rfl) (World.news_of_block (cs := #[.int .i64 pz]) (t := 3) (fr := (0, 0)) (new1_0 wr _)) (by simp [Value.oneCell']) (by omega) (by unfold maxLen; omega) (by omega) (by have := (unhide HR).turn.size; have := cell_lt (unhide HR).raw; have := cell_lt (cell_of_cells (unhide HR).blk 0); simp; omega) (wr.heap.size + 1) (by simp) ?_
            intro gb cap2 w5 hown1 hgrow hat hlt
            have q0 := far_cell hgrow c0 (fun e => (unhide hNb _ e).2 rfl)
            have q0f := far_froz hgrow c0 f0 (fun e => (unhide hNb _ e).2 rfl)
            have TG : Turn1 (fun k' => k' = bc ∨ some k' = (Value.slice va acc.length vc).ownBlock) bc 0 wr w5 := (Turn1.refl hbX).step_alloc.step_drew.step_turn (Turn.grown hgrow) (fun _ _ h => Or.inr h) (fun e => (unhide hNb _ e).2 rfl)
            refine hK.out _ _ (HSx _ TG) (fun hHeld => ?_)
            clear hK K
            refine wpAnyH_take (i := 13) (v := ?_) rfl (by kernel_rfl) (by kernel_rfl) (by kernel_rfl) (fun _ _ _ h => h) (Or.inl ⟨by rfl, ?hy⟩) (by assumption) ?_
            case hy => intro w hSw; (try dsimp only at hSw); go_simp; (try with_reducible rfl)
            (try go_frame)
            refine wpAnyH_ready (rs := [14]) (by kernel_rfl) (by simp) ?_
            refine AllReadyH.cons rfl (fun K hK => ?_) AllReadyH.nil
            go_simp
            refine hK.out _ _ (HSx _ (TG.step_set (Or.inl rfl))) (fun hHeld => ?_)
            clear hK K
            refine wpAnyH_done (by kernel_rfl) ?_ _
            refine NoPanic.normal ?_
            have HR2 := unhide HNX gb cap2 w5 hown1 hgrow hat hlt
            clear hown1 hgrow hat hlt TG q0 q0f hHeld HNX HSx hN c0a KPk
            go_wp2
            go_roundw
            case rel => exact ⟨j + 1, acc ++ [pz], _, by omega, by simp, HR2, hpar, by have := unhide HL2; rw [List.length_append]; show 2 ≤ acc.length + 1 ∧ acc.length + 1 ≤ 6; omega⟩
            case measure => simp [intOf]; omega
          · go_simp
            refine (unhide KPk _).mono ?_
            rintro e w7 ⟨rfl, rfl⟩
            refine hK.out _ _ (HSx _ (Turn1.refl hbX).step_drew) (fun hHeld => ?_)
            clear hK K
            refine wpAnyH_ready (rs := [1, 11]) (by kernel_rfl) (by simp) ?_
            refine AllReadyH.cons rfl (fun K hK => ?_) (AllReadyH.cons rfl (fun K hK => ?_) (AllReadyH.nil))
            · go_simp
              refine hK.out _ _ (HSx _ (Turn1.refl hbX).step_drew) (fun hHeld => ?_)
              clear hK K
              refine wpAnyH_ready (rs := [11]) (by kernel_rfl) (by simp) ?_
              refine AllReadyH.cons rfl (fun K hK => ?_) (AllReadyH.nil)
              go_simp
              refine hK.out _ _ (HSx _ (Turn1.refl hbX).step_alloc.step_drew) (fun hHeld => ?_)
              clear hK K
              refine wpAnyH_ready (rs := [12]) (by kernel_rfl) (by simp) ?_
              refine AllReadyH.cons rfl (fun K hK => ?_) AllReadyH.nil
              refine step_append_lies _ (by rfl) _ _ _ (by rfl) (w.heap.size + 2) 3 i0 _ 1 8 Tryd.underlying25 hi hz0 hz1 hz2 rfl (by omega) (.slice va acc.length vc) acc.length xs (by rfl) ((unhide hN).alloc _).drew ⟨wr.heap.size, 0, none⟩ 1 1 [.int .i64 pz] (by rfl) (by rfl) (World.news_of_block (cs := #[.int .i64 pz]) (t := 3) (fr := (0, 0)) (new1_0 wr _)) (by simp [Value.oneCell']) (by omega) (by unfold maxLen; omega) (by omega) (by have := (unhide HR).turn.size; have := cell_lt (unhide HR).raw; have := cell_lt (cell_of_cells (unhide HR).blk 0); simp; omega) (wr.heap.size + 1) (by simp) ?_
              intro gb cap2 w5 hown1 hgrow hat hlt
              have q0 := far_cell hgrow c0 (fun e => (unhide hNb _ e).2 rfl)
              have q0f := far_froz hgrow c0 f0 (fun e => (unhide hNb _ e).2 rfl)
              have TG : Turn1 (fun k' => k' = bc ∨ some k' = (Value.slice va acc.length vc).ownBlock) bc 0 wr w5 := (Turn1.refl hbX).step_alloc.step_drew.step_turn (Turn.grown hgrow) (fun _ _ h => Or.inr h) (fun e => (unhide hNb _ e).2 rfl)
              refine hK.out _ _ (HSx _ TG) (fun hHeld => ?_)
              clear hK K
              refine wpAnyH_take (i := 13) (v := ?_) rfl (by kernel_rfl) (by kernel_rfl) (by kernel_rfl) (fun _ _ _ h => h) (Or.inl ⟨by rfl, ?hy⟩) (by assumption) ?_
              case hy => intro w hSw; (try dsimp only at hSw); go_simp; (try with_reducible rfl)
              (try go_frame)
              refine wpAnyH_ready (rs := [14]) (by kernel_rfl) (by simp) ?_
              refine AllReadyH.cons rfl (fun K hK => ?_) AllReadyH.nil
              go_simp
              refine hK.out _ _ (HSx _ (TG.step_set (Or.inl rfl))) (fun hHeld => ?_)
              clear hK K
              refine wpAnyH_done (by kernel_rfl) ?_ _
              refine NoPanic.normal ?_
              have HR2 := unhide HNX gb cap2 w5 hown1 hgrow hat hlt
              clear hown1 hgrow hat hlt TG q0 q0f hHeld HNX HSx hN c0a KPk
              go_wp2
              go_roundw
              case rel => exact ⟨j + 1, acc ++ [pz], _, by omega, by simp, HR2, hpar, by have := unhide HL2; rw [List.length_append]; show 2 ≤ acc.length + 1 ∧ acc.length + 1 ≤ 6; omega⟩
              case measure => simp [intOf]; omega
            · go_simp
              refine hK.out _ _ (HSx _ (Turn1.refl hbX).step_alloc.step_drew) (fun hHeld => ?_)
              clear hK K
              refine wpAnyH_ready (rs := [1]) (by kernel_rfl) (by simp) ?_
              refine AllReadyH.cons rfl (fun K hK => ?_) (AllReadyH.nil)
              go_simp
              refine hK.out _ _ (HSx _ (Turn1.refl hbX).step_alloc.step_drew) (fun hHeld => ?_)
              clear hK K
              refine wpAnyH_ready (rs := [12]) (by kernel_rfl) (by simp) ?_
              refine AllReadyH.cons rfl (fun K hK => ?_) AllReadyH.nil
              refine step_append_lies _ (by rfl) _ _ _ (by rfl) (w.heap.size + 2) 3 i0 _ 1 8 Tryd.underlying25 hi hz0 hz1 hz2 rfl (by omega) (.slice va acc.length vc) acc.length xs (by rfl) ((unhide hN).alloc _).drew ⟨wr.heap.size, 0, none⟩ 1 1 [.int .i64 pz] (by rfl) (by rfl) (World.news_of_block (cs := #[.int .i64 pz]) (t := 3) (fr := (0, 0)) (new1_0 wr _)) (by simp [Value.oneCell']) (by omega) (by unfold maxLen; omega) (by omega) (by have := (unhide HR).turn.size; have := cell_lt (unhide HR).raw; have := cell_lt (cell_of_cells (unhide HR).blk 0); simp; omega) (wr.heap.size + 1) (by simp) ?_
              intro gb cap2 w5 hown1 hgrow hat hlt
              have q0 := far_cell hgrow c0 (fun e => (unhide hNb _ e).2 rfl)
              have q0f := far_froz hgrow c0 f0 (fun e => (unhide hNb _ e).2 rfl)
              have TG : Turn1 (fun k' => k' = bc ∨ some k' = (Value.slice va acc.length vc).ownBlock) bc 0 wr w5 := (Turn1.refl hbX).step_alloc.step_drew.step_turn (Turn.grown hgrow) (fun _ _ h => Or.inr h) (fun e => (unhide hNb _ e).2 rfl)
              refine hK.out _ _ (HSx _ TG) (fun hHeld => ?_)
              clear hK K
              refine wpAnyH_take (i := 13) (v := ?_) rfl (by kernel_rfl) (by kernel_rfl) (by kernel_rfl) (fun _ _ _ h => h) (Or.inl ⟨by rfl, ?hy⟩) (by assumption) ?_
              case hy => intro w hSw; (try dsimp only at hSw); go_simp; (try with_reducible rfl)
              (try go_frame)
              refine wpAnyH_ready (rs := [14]) (by kernel_rfl) (by simp) ?_
              refine AllReadyH.cons rfl (fun K hK => ?_) AllReadyH.nil
              go_simp
              refine hK.out _ _ (HSx _ (TG.step_set (Or.inl rfl))) (fun hHeld => ?_)
              clear hK K
              refine wpAnyH_done (by kernel_rfl) ?_ _
              refine NoPanic.normal ?_
              have HR2 := unhide HNX gb cap2 w5 hown1 hgrow hat hlt
              clear hown1 hgrow hat hlt TG q0 q0f hHeld HNX HSx hN c0a KPk
              go_wp2
              go_roundw
              case rel => exact ⟨j + 1, acc ++ [pz], _, by omega, by simp, HR2, hpar, by have := unhide HL2; rw [List.length_append]; show 2 ≤ acc.length + 1 ∧ acc.length + 1 ≤ 6; omega⟩
              case measure => simp [intOf]; omega
      · have hfin : Hid (P = acc) := by
          show P = acc
          rw [unhide HP]
          by_cases h1 : j < zs.length
          · rw [List.drop_eq_getElem_cons h1]
            show (if acc.length < 6 then _ else _) = _
            rw [if_neg (fun h2 => hgo ⟨h1, h2⟩)]
          · rw [List.drop_of_length_le (by omega)]; rfl
        have r0 := peek_some ((unhide HR).res.are 0 (by omega))
        have r1 := peek_some ((unhide HR).res.are 1 (by omega))
        have r2 := peek_some ((unhide HR).res.are 2 (by omega))
        have r3 := peek_some ((unhide HR).res.are 3 (by omega))
        have r4 := peek_some ((unhide HR).res.are 4 (by omega))
        have g0 := (unhide HR).res.free 0
        have g1 := (unhide HR).res.free 1
        have g2 := (unhide HR).res.free 2
        have g3 := (unhide HR).res.free 3
        have g4 := (unhide HR).res.free 4
        have c1 : wr.cell? ⟨bc, 1, none⟩ = some (.int .i64 q1) := cell_of_cells (unhide HR).blk 1
        have c2 : wr.cell? ⟨bc, 2, none⟩ = some (.int .i64 (1 + q2)) := cell_of_cells (unhide HR).blk 2
        have c3 : wr.cell? ⟨bc, 3, none⟩ = some (.int .i64 (1 + q3)) := cell_of_cells (unhide HR).blk 3
        have c4 : wr.cell? ⟨bc, 4, none⟩ = some (.int .i64 (1 + q4)) := cell_of_cells (unhide HR).blk 4
        have HFIN : Hid (∀ w', Turn (fun k' => k' = w.heap.size + 1) wr w' → ∃ v, Ending.returned (.agg #[.slice va acc.length vc, .int .i64 q1, .int .i64 (1 + q2), .int .i64 (1 + q3), .int .i64 (1 + q4)]) = Ending.returned (.agg #[v, .int .i64 q1, .int .i64 (1 + q2), .int .i64 (1 + q3), .int .i64 (1 + q4)]) ∧ Turn nothing w w' ∧ w'.ownsRow w.heap.size 3 1 v P.length (P.map fun z => .int .i64 z)) := by
          intro w' T
          rw [unhide hfin]
          exact ⟨_, rfl, (unhide HR).turn.step_turn T (fun k' hk' e => by omega), owns_base (owns_turn (unhide HR).row T (fun k' hk' e => by have := ((unhide HR).row.lt k' hk').1; omega)) (by omega)⟩
        have hcond : (decide ((j : Int) < (zs.length : Int)) && decide ((acc.length : Int) < 6)) = false := by
          rw [Bool.and_eq_false_iff]
          by_cases h1 : j < zs.length
          · exact Or.inr (decide_eq_false (fun h2 => hgo ⟨h1, by omega⟩))
          · exact Or.inl (decide_eq_false (by omega))
        by_cases h1 : j < zs.length
        · have h2 : ¬ acc.length < 6 := fun h2 => hgo ⟨h1, h2⟩
          have h1' : (j : Int) < (zs.length : Int) := by omega
          have h2' : (6 : Int) ≤ (acc.length : Int) := by omega
          clear hgo hcond
          go_wp2
          exact bodyPost_ret (v := .agg #[.slice va acc.length vc, .int .i64 q1, .int .i64 (1 + q2), .int .i64 (1 + q3), .int .i64 (1 + q4)]) (by simp [results, Tryd.results39, go_sem, r0, r1, r2, r3, r4]) rfl (unhide HFIN _ (by (repeat (first | with_reducible assumption | with_reducible exact Turn.refl _ _ | with_reducible apply Turn.step_alloc | with_reducible apply Turn.step_drew | ((with_reducible refine Turn.step_turn (N := nothing) ?_ (by assumption) ?_); rotate_left; · exact fun _ _ h => False.elim h) | ((with_reducible refine Turn.step_set ?_ ?_); rotate_left; · first | exact Or.inr rfl | exact Or.inr (Or.inl rfl) | exact Or.inl (by simp <;> omega)) | ((with_reducible refine Turn.step_turn ?_ (Turn.grown (by assumption)) ?_); rotate_left; · exact fun _ _ h => Or.inr h) | with_reducible apply There.drew | with_reducible apply There.set | ((with_reducible refine There.turn ?_ (by assumption) ?_); rotate_left; · exact id) | assumption))))
        · have h1' : (zs.length : Int) ≤ (j : Int) := by omega
          clear hgo hcond
          go_wp2
          exact bodyPost_ret (v := .agg #[.slice va acc.length vc, .int .i64 q1, .int .i64 (1 + q2), .int .i64 (1 + q3), .int .i64 (1 + q4)]) (by simp [results, Tryd.results39, go_sem, r0, r1, r2, r3, r4]) rfl (unhide HFIN _ (by (repeat (first | with_reducible assumption | with_reducible exact Turn.refl _ _ | with_reducible apply Turn.step_alloc | with_reducible apply Turn.step_drew | ((with_reducible refine Turn.step_turn (N := nothing) ?_ (by assumption) ?_); rotate_left; · exact fun _ _ h => False.elim h) | ((with_reducible refine Turn.step_set ?_ ?_); rotate_left; · first | exact Or.inr rfl | exact Or.inr (Or.inl rfl) | exact Or.inl (by simp <;> omega)) | ((with_reducible refine Turn.step_turn ?_ (Turn.grown (by assumption)) ?_); rotate_left; · exact fun _ _ h => Or.inr h) | with_reducible apply There.drew | with_reducible apply There.set | ((with_reducible refine There.turn ?_ (by assumption) ?_); rotate_left; · exact id) | assumption))))

end Go.Proofs.YtpdkojgepagbnaaDoor
