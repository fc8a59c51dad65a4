/-
  An answer is learnt: the entry stays.
-/
import Derived.Test.YtpdkojgepagbnaaDoorJ18
namespace Go.Proofs.YtpdkojgepagbnaaDoor
set_option maxRecDepth 100000
open Go.RowKit
open Tier (Mes Ans Conf)
attribute [local go_sem ↓] Go.wp_at_zero Go.wp_at_succ

set_option maxHeartbeats 8000000 in
theorem learn_older (own : Own) (τ bt : Nat) (g : Gh) (s : PS) (n : Nat) (m : Mes) (base : Int) (w : World) (h : Lies own τ w bt g s) (hf : s.Fine) (hn : n < 6) (h2 : m.key.size ≤ 100) (e0 : Ent) (he : s.entry n m.key = some e0) (hv : e0.ver = m.ver) (hb : ¬ base ≤ ageAt s.c.drift (s.clk n) e0) :
    Calls Tryd.prog 107 #[.pointer (some ⟨bt, 0, none⟩), placeV (n, m.key), mesV m, .int .i64 base] w fun r w' => r = .returned (.tuple #[]) ∧ Lies own τ w' bt g s ∧ Step τ own own w w' := by
  have HH := hide h
  have d12 : w.cell? ⟨bt, 12, none⟩ = some (.pointer (some ⟨g.be, 0, none⟩)) := cell_of_cells h.tier.block 12
  have d6 : w.cell? ⟨bt, 6 + n, none⟩ = some (.int .i64 (s.clk n)) := h.tier.clk hn
  have KA := hide (fun w (h : Hid (Lies own τ w bt g s)) => At_lies n m.key w h (by omega) h2)
  have hfe : e0.Fine (s.clk n) := (hf.ents _ (aget_mem he)).1
  have KG : Hid (∀ w, Lies own τ w bt g s → Calls Tryd.prog 88 #[.pointer (some ⟨bt, 0, none⟩), .int .i64 (n : Int), entV e0] w fun r w' => r = .returned (.int .i64 (ageAt s.c.drift (s.clk n) e0)) ∧ Turn nothing w w') := fun w h => age_any bt (s.ts g) n e0 w h.tier (hf.ts g) hn hfe
  rw [he] at KA
  generalize ageAt s.c.drift (s.clk n) e0 = ag at *
  clear h hf he hfe
  have i0 : (0 : Int) ≤ (n : Int) := by omega
  have i1 : (n : Int) < 6 := by omega
  generalize s.clk n = ck at *
  obtain ⟨ver0, pres0, val0, base0, since0⟩ := e0
  obtain ⟨kind, frm, tto, key, serial, ver, age, pres, val⟩ := m
  dsimp only at hv
  subst hv
  have hnl : ¬ ver0 < ver0 := Int.lt_irrefl _
  simp only [mesV, mesL, entV, placeV, Option.getD, Option.isSome] at KA KG ⊢
  go_enter Tryd.func107, Tryd.ntmps107
  go_wp2
  generalize hW : World.alloc _ _ = W0
  have T0 : Turn nothing w W0 := by rw [← hW]; exact (Turn.alloc _ _ _).step_alloc
  have hsz : W0.heap.size = w.heap.size + 1 + 1 := by rw [← hW]; simp
  have x0 : ∃ ty, W0.heap[w.heap.size]? = some (.cells #[.int .i64 (n : Int), .string key] ty (0, 0)) := by rw [← hW]; exact ⟨_, new2_0 _ _ _⟩
  have x0_0 : W0.cell? ⟨w.heap.size, 0, none⟩ = some (.int .i64 (n : Int)) := by obtain ⟨_, h⟩ := x0; exact cell_of_cells h 0
  have x0_1 : W0.cell? ⟨w.heap.size, 1, none⟩ = some (.string key) := by obtain ⟨_, h⟩ := x0; exact cell_of_cells h 1
  have x1 : ∃ ty, W0.heap[w.heap.size + 1]? = some (.cells #[.int .i64 kind, .int .i64 frm, .int .i64 tto, .string key, .int .i64 serial, .int .i64 ver0, .int .i64 age, .int .i64 pres, .string val] ty (0, 0)) := by rw [← hW]; exact ⟨_, new2_1 _ _ _⟩
  have x1_0 : W0.cell? ⟨w.heap.size + 1, 0, none⟩ = some (.int .i64 kind) := by obtain ⟨_, h⟩ := x1; exact cell_of_cells h 0
  have x1_1 : W0.cell? ⟨w.heap.size + 1, 1, none⟩ = some (.int .i64 frm) := by obtain ⟨_, h⟩ := x1; exact cell_of_cells h 1
  have x1_2 : W0.cell? ⟨w.heap.size + 1, 2, none⟩ = some (.int .i64 tto) := by obtain ⟨_, h⟩ := x1; exact cell_of_cells h 2
  have x1_3 : W0.cell? ⟨w.heap.size + 1, 3, none⟩ = some (.string key) := by obtain ⟨_, h⟩ := x1; exact cell_of_cells h 3
  have x1_4 : W0.cell? ⟨w.heap.size + 1, 4, none⟩ = some (.int .i64 serial) := by obtain ⟨_, h⟩ := x1; exact cell_of_cells h 4
  have x1_5 : W0.cell? ⟨w.heap.size + 1, 5, none⟩ = some (.int .i64 ver0) := by obtain ⟨_, h⟩ := x1; exact cell_of_cells h 5
  have x1_6 : W0.cell? ⟨w.heap.size + 1, 6, none⟩ = some (.int .i64 age) := by obtain ⟨_, h⟩ := x1; exact cell_of_cells h 6
  have x1_7 : W0.cell? ⟨w.heap.size + 1, 7, none⟩ = some (.int .i64 pres) := by obtain ⟨_, h⟩ := x1; exact cell_of_cells h 7
  have x1_8 : W0.cell? ⟨w.heap.size + 1, 8, none⟩ = some (.string val) := by obtain ⟨_, h⟩ := x1; exact cell_of_cells h 8
  have c12 := T0.cell d12 id
  have c6 := T0.cell d6 id
  have HL := hide ((unhide HH).turn T0)
  clear hW d12 d6
  have hszw : w.heap.size + 1 + 1 ≤ W0.heap.size := by omega
  clear hsz
  obtain ⟨B, hsz⟩ : ∃ B, W0.heap.size = B := ⟨_, rfl⟩
  rw [hsz] at hszw
  have HS : ∀ w', Turn nothing W0 w' → Turn nothing W0 w' ∧ w'.cell? ⟨bt, 12, none⟩ = some (.pointer (some ⟨g.be, 0, none⟩)) ∧ w'.cell? ⟨w.heap.size, 0, none⟩ = some (.int .i64 (n : Int)) ∧ w'.cell? ⟨w.heap.size, 1, none⟩ = some (.string key) ∧ (Hid (Lies own τ w' bt g s)) := fun w' T => ⟨T, T.cell c12 id, T.cell x0_0 id, T.cell x0_1 id, ((unhide HL).turn T)⟩
  go_region_held3 (fun w' => Turn nothing W0 w' ∧ w'.cell? ⟨bt, 12, none⟩ = some (.pointer (some ⟨g.be, 0, none⟩)) ∧ w'.cell? ⟨w.heap.size, 0, none⟩ = some (.int .i64 (n : Int)) ∧ w'.cell? ⟨w.heap.size, 1, none⟩ = some (.string key) ∧ (Hid (Lies own τ w' bt g s))) ((go_split_ands; apply HS; all_goals (repeat (first | with_reducible assumption | with_reducible exact Turn.refl _ _ | with_reducible apply Turn.step_alloc | with_reducible apply Turn.step_drew | ((with_reducible refine Turn.step_turn (N := nothing) ?_ (by assumption) ?_); rotate_left; · exact fun _ _ h => False.elim h) | ((with_reducible refine Turn.step_set ?_ ?_); rotate_left; · first | exact Or.inr rfl | exact Or.inr (Or.inl rfl) | exact Or.inl (by simp <;> omega)) | ((with_reducible refine Turn.step_turn ?_ (Turn.grown (by assumption)) ?_); rotate_left; · exact fun _ _ h => Or.inr h) | with_reducible apply There.drew | with_reducible apply There.set | ((with_reducible refine There.turn ?_ (by assumption) ?_); rotate_left; · exact id) | assumption)))) (first | (go_at_call 55; go_split_ands; refine (unhide KA _ (by assumption)).mono ?_; rintro e wq ⟨rfl, TC⟩; (try (have TH := there_new (n := 4) TC hsz (by simp); have q0 := peek_some (TH.are 0 (by omega)); have q1 := peek_some (TH.are 1 (by omega)); have q2 := peek_some (TH.are 2 (by omega)); have q3 := peek_some (TH.are 3 (by omega)); have q4 := peek_some (TH.are 4 (by omega)); have r0 := TH.free 0; have r1 := TH.free 1; have r2 := TH.free 2; have r3 := TH.free 3; have r4 := TH.free 4))))
  all_goals go_split_ands
  all_goals clear HS
  all_goals (first
    | (generalize hX : World.alloc _ _ = X
       have TX : Turn nothing W0 X := by rw [← hX]; assumption
       have z0 : X.cell? ⟨wq.heap.size, 0, none⟩ = some (.int .i64 ver0) := by rw [← hX]; exact cell_of_cells (new1_0 wq _) 0
       have z1 : X.cell? ⟨wq.heap.size, 1, none⟩ = some (.int .i64 pres0) := by rw [← hX]; exact cell_of_cells (new1_0 wq _) 1
       have z2 : X.cell? ⟨wq.heap.size, 2, none⟩ = some (.string val0) := by rw [← hX]; exact cell_of_cells (new1_0 wq _) 2
       have z3 : X.cell? ⟨wq.heap.size, 3, none⟩ = some (.int .i64 base0) := by rw [← hX]; exact cell_of_cells (new1_0 wq _) 3
       have z4 : X.cell? ⟨wq.heap.size, 4, none⟩ = some (.int .i64 since0) := by rw [← hX]; exact cell_of_cells (new1_0 wq _) 4
       have f0 : X.frozen? ⟨wq.heap.size, 0, none⟩ = false := by rw [← hX]; exact frozen_of_cells (new1_0 wq _) 0
       have f1 : X.frozen? ⟨wq.heap.size, 1, none⟩ = false := by rw [← hX]; exact frozen_of_cells (new1_0 wq _) 1
       have f2 : X.frozen? ⟨wq.heap.size, 2, none⟩ = false := by rw [← hX]; exact frozen_of_cells (new1_0 wq _) 2
       have f3 : X.frozen? ⟨wq.heap.size, 3, none⟩ = false := by rw [← hX]; exact frozen_of_cells (new1_0 wq _) 3
       have f4 : X.frozen? ⟨wq.heap.size, 4, none⟩ = false := by rw [← hX]; exact frozen_of_cells (new1_0 wq _) 4
       have hBw : w.heap.size ≤ wq.heap.size := Nat.le_trans (by omega : w.heap.size ≤ B) (hsz ▸ TC.size)
       have hB0 : W0.heap.size ≤ wq.heap.size := TC.size
       clear hX TC
       generalize wq.heap.size = B at *)
    | (generalize hX : World.setCell _ _ _ = X
       have TX : Turn nothing W0 X := by rw [← hX]; assumption
       have z0 : X.cell? ⟨B, 0, none⟩ = some (.int .i64 ver0) := by rw [← hX]; simp [go_sem, TH.are 0 (by omega)]
       have z1 : X.cell? ⟨B, 1, none⟩ = some (.int .i64 pres0) := by rw [← hX]; simp [go_sem, TH.are 1 (by omega)]
       have z2 : X.cell? ⟨B, 2, none⟩ = some (.string val0) := by rw [← hX]; simp [go_sem, TH.are 2 (by omega)]
       have z3 : X.cell? ⟨B, 3, none⟩ = some (.int .i64 base0) := by rw [← hX]; simp [go_sem, TH.are 3 (by omega)]
       have z4 : X.cell? ⟨B, 4, none⟩ = some (.int .i64 since0) := by rw [← hX]; simp [go_sem, TH.are 4 (by omega)]
       have f0 : X.frozen? ⟨B, 0, none⟩ = false := by rw [← hX]; simp [go_sem, TH.free 0]
       have f1 : X.frozen? ⟨B, 1, none⟩ = false := by rw [← hX]; simp [go_sem, TH.free 1]
       have f2 : X.frozen? ⟨B, 2, none⟩ = false := by rw [← hX]; simp [go_sem, TH.free 2]
       have f3 : X.frozen? ⟨B, 3, none⟩ = false := by rw [← hX]; simp [go_sem, TH.free 3]
       have f4 : X.frozen? ⟨B, 4, none⟩ = false := by rw [← hX]; simp [go_sem, TH.free 4]
       have hBw : w.heap.size ≤ B := by omega
       have hB0 : W0.heap.size ≤ B := by omega
       clear hX TC
       clear TH q0 r0))
  all_goals (have y0_0 := TX.cell x0_0 id)
  all_goals (have y0_1 := TX.cell x0_1 id)
  all_goals (have y1_0 := TX.cell x1_0 id)
  all_goals (have y1_1 := TX.cell x1_1 id)
  all_goals (have y1_2 := TX.cell x1_2 id)
  all_goals (have y1_3 := TX.cell x1_3 id)
  all_goals (have y1_4 := TX.cell x1_4 id)
  all_goals (have y1_5 := TX.cell x1_5 id)
  all_goals (have y1_6 := TX.cell x1_6 id)
  all_goals (have y1_7 := TX.cell x1_7 id)
  all_goals (have y1_8 := TX.cell x1_8 id)
  all_goals (
    have v12 := TX.cell c12 id
    have v6 := TX.cell c6 id
    have HLX := hide ((unhide HL).turn TX)
    go_wp2)
  all_goals (
    have HS : ∀ w', Turn nothing X w' → Turn nothing X w' ∧ w'.cell? ⟨bt, 6 + n, none⟩ = some (.int .i64 ck) ∧ w'.cell? ⟨w.heap.size, 0, none⟩ = some (.int .i64 (n : Int)) := fun w' T => ⟨T, T.cell v6 id, T.cell y0_0 id⟩
    go_region_held3 (fun w' => Turn nothing X w' ∧ w'.cell? ⟨bt, 6 + n, none⟩ = some (.int .i64 ck) ∧ w'.cell? ⟨w.heap.size, 0, none⟩ = some (.int .i64 (n : Int))) ((go_split_ands; apply HS; all_goals (repeat (first | with_reducible assumption | with_reducible exact Turn.refl _ _ | with_reducible apply Turn.step_alloc | with_reducible apply Turn.step_drew | ((with_reducible refine Turn.step_turn (N := nothing) ?_ (by assumption) ?_); rotate_left; · exact fun _ _ h => False.elim h) | ((with_reducible refine Turn.step_set ?_ ?_); rotate_left; · first | exact Or.inr rfl | exact Or.inr (Or.inl rfl) | exact Or.inl (by simp <;> omega)) | ((with_reducible refine Turn.step_turn ?_ (Turn.grown (by assumption)) ?_); rotate_left; · exact fun _ _ h => Or.inr h) | with_reducible apply There.drew | with_reducible apply There.set | ((with_reducible refine There.turn ?_ (by assumption) ?_); rotate_left; · exact id) | assumption)))) (fail))
  all_goals go_split_ands
  all_goals clear HS
  all_goals (
    go_wp2_with fail)
  all_goals (
    refine (unhide KG _ ((unhide HLX).turn (Turn.drew _ _))).mono ?_
    rintro e w5 ⟨rfl, T5⟩
    have TX5 : Turn nothing X w5 := ((Turn.drew _ _).step_turn T5 (fun _ _ h => h))
    have HE := hide (And.intro ((unhide HLX).turn TX5) (Step.of_turn (τ := τ) (own := own) ((T0.step_turn TX (fun _ _ h => h)).step_turn TX5 (fun _ _ h => h))))
    go_wp2
    go_end0
    exact ⟨rfl, (unhide HE).1, (unhide HE).2⟩)

set_option maxHeartbeats 8000000 in
theorem learn_greater (own : Own) (τ bt : Nat) (g : Gh) (s : PS) (n : Nat) (m : Mes) (base : Int) (w : World) (h : Lies own τ w bt g s) (hn : n < 6) (h2 : m.key.size ≤ 100) (e0 : Ent) (he : s.entry n m.key = some e0) (hv : m.ver < e0.ver) :
    Calls Tryd.prog 107 #[.pointer (some ⟨bt, 0, none⟩), placeV (n, m.key), mesV m, .int .i64 base] w fun r w' => r = .returned (.tuple #[]) ∧ Lies own τ w' bt g s ∧ Step τ own own w w' := by
  have HH := hide h
  have d12 : w.cell? ⟨bt, 12, none⟩ = some (.pointer (some ⟨g.be, 0, none⟩)) := cell_of_cells h.tier.block 12
  have d6 : w.cell? ⟨bt, 6 + n, none⟩ = some (.int .i64 (s.clk n)) := h.tier.clk hn
  have KA := hide (fun w (h : Hid (Lies own τ w bt g s)) => At_lies n m.key w h (by omega) h2)
  rw [he] at KA
  clear h he
  have i0 : (0 : Int) ≤ (n : Int) := by omega
  have i1 : (n : Int) < 6 := by omega
  generalize s.clk n = ck at *
  obtain ⟨ver0, pres0, val0, base0, since0⟩ := e0
  obtain ⟨kind, frm, tto, key, serial, ver, age, pres, val⟩ := m
  dsimp only at hv
  have hnl : ¬ ver0 < ver := by omega
  have hne : ¬ ver0 = ver := by omega
  simp only [mesV, mesL, entV, placeV, Option.getD, Option.isSome] at KA ⊢
  go_enter Tryd.func107, Tryd.ntmps107
  go_wp2
  generalize hW : World.alloc _ _ = W0
  have T0 : Turn nothing w W0 := by rw [← hW]; exact (Turn.alloc _ _ _).step_alloc
  have hsz : W0.heap.size = w.heap.size + 1 + 1 := by rw [← hW]; simp
  have x0 : ∃ ty, W0.heap[w.heap.size]? = some (.cells #[.int .i64 (n : Int), .string key] ty (0, 0)) := by rw [← hW]; exact ⟨_, new2_0 _ _ _⟩
  have x0_0 : W0.cell? ⟨w.heap.size, 0, none⟩ = some (.int .i64 (n : Int)) := by obtain ⟨_, h⟩ := x0; exact cell_of_cells h 0
  have x0_1 : W0.cell? ⟨w.heap.size, 1, none⟩ = some (.string key) := by obtain ⟨_, h⟩ := x0; exact cell_of_cells h 1
  have x1 : ∃ ty, W0.heap[w.heap.size + 1]? = some (.cells #[.int .i64 kind, .int .i64 frm, .int .i64 tto, .string key, .int .i64 serial, .int .i64 ver, .int .i64 age, .int .i64 pres, .string val] ty (0, 0)) := by rw [← hW]; exact ⟨_, new2_1 _ _ _⟩
  have x1_0 : W0.cell? ⟨w.heap.size + 1, 0, none⟩ = some (.int .i64 kind) := by obtain ⟨_, h⟩ := x1; exact cell_of_cells h 0
  have x1_1 : W0.cell? ⟨w.heap.size + 1, 1, none⟩ = some (.int .i64 frm) := by obtain ⟨_, h⟩ := x1; exact cell_of_cells h 1
  have x1_2 : W0.cell? ⟨w.heap.size + 1, 2, none⟩ = some (.int .i64 tto) := by obtain ⟨_, h⟩ := x1; exact cell_of_cells h 2
  have x1_3 : W0.cell? ⟨w.heap.size + 1, 3, none⟩ = some (.string key) := by obtain ⟨_, h⟩ := x1; exact cell_of_cells h 3
  have x1_4 : W0.cell? ⟨w.heap.size + 1, 4, none⟩ = some (.int .i64 serial) := by obtain ⟨_, h⟩ := x1; exact cell_of_cells h 4
  have x1_5 : W0.cell? ⟨w.heap.size + 1, 5, none⟩ = some (.int .i64 ver) := by obtain ⟨_, h⟩ := x1; exact cell_of_cells h 5
  have x1_6 : W0.cell? ⟨w.heap.size + 1, 6, none⟩ = some (.int .i64 age) := by obtain ⟨_, h⟩ := x1; exact cell_of_cells h 6
  have x1_7 : W0.cell? ⟨w.heap.size + 1, 7, none⟩ = some (.int .i64 pres) := by obtain ⟨_, h⟩ := x1; exact cell_of_cells h 7
  have x1_8 : W0.cell? ⟨w.heap.size + 1, 8, none⟩ = some (.string val) := by obtain ⟨_, h⟩ := x1; exact cell_of_cells h 8
  have c12 := T0.cell d12 id
  have c6 := T0.cell d6 id
  have HL := hide ((unhide HH).turn T0)
  clear hW d12 d6
  have hszw : w.heap.size + 1 + 1 ≤ W0.heap.size := by omega
  clear hsz
  obtain ⟨B, hsz⟩ : ∃ B, W0.heap.size = B := ⟨_, rfl⟩
  rw [hsz] at hszw
  have HS : ∀ w', Turn nothing W0 w' → Turn nothing W0 w' ∧ w'.cell? ⟨bt, 12, none⟩ = some (.pointer (some ⟨g.be, 0, none⟩)) ∧ w'.cell? ⟨w.heap.size, 0, none⟩ = some (.int .i64 (n : Int)) ∧ w'.cell? ⟨w.heap.size, 1, none⟩ = some (.string key) ∧ (Hid (Lies own τ w' bt g s)) := fun w' T => ⟨T, T.cell c12 id, T.cell x0_0 id, T.cell x0_1 id, ((unhide HL).turn T)⟩
  go_region_held3 (fun w' => Turn nothing W0 w' ∧ w'.cell? ⟨bt, 12, none⟩ = some (.pointer (some ⟨g.be, 0, none⟩)) ∧ w'.cell? ⟨w.heap.size, 0, none⟩ = some (.int .i64 (n : Int)) ∧ w'.cell? ⟨w.heap.size, 1, none⟩ = some (.string key) ∧ (Hid (Lies own τ w' bt g s))) ((go_split_ands; apply HS; all_goals (repeat (first | with_reducible assumption | with_reducible exact Turn.refl _ _ | with_reducible apply Turn.step_alloc | with_reducible apply Turn.step_drew | ((with_reducible refine Turn.step_turn (N := nothing) ?_ (by assumption) ?_); rotate_left; · exact fun _ _ h => False.elim h) | ((with_reducible refine Turn.step_set ?_ ?_); rotate_left; · first | exact Or.inr rfl | exact Or.inr (Or.inl rfl) | exact Or.inl (by simp <;> omega)) | ((with_reducible refine Turn.step_turn ?_ (Turn.grown (by assumption)) ?_); rotate_left; · exact fun _ _ h => Or.inr h) | with_reducible apply There.drew | with_reducible apply There.set | ((with_reducible refine There.turn ?_ (by assumption) ?_); rotate_left; · exact id) | assumption)))) (first | (go_at_call 55; go_split_ands; refine (unhide KA _ (by assumption)).mono ?_; rintro e wq ⟨rfl, TC⟩; (try (have TH := there_new (n := 4) TC hsz (by simp); have q0 := peek_some (TH.are 0 (by omega)); have q1 := peek_some (TH.are 1 (by omega)); have q2 := peek_some (TH.are 2 (by omega)); have q3 := peek_some (TH.are 3 (by omega)); have q4 := peek_some (TH.are 4 (by omega)); have r0 := TH.free 0; have r1 := TH.free 1; have r2 := TH.free 2; have r3 := TH.free 3; have r4 := TH.free 4))))
  all_goals go_split_ands
  all_goals clear HS
  all_goals (first
    | (generalize hX : World.alloc _ _ = X
       have TX : Turn nothing W0 X := by rw [← hX]; assumption
       have z0 : X.cell? ⟨wq.heap.size, 0, none⟩ = some (.int .i64 ver0) := by rw [← hX]; exact cell_of_cells (new1_0 wq _) 0
       have z1 : X.cell? ⟨wq.heap.size, 1, none⟩ = some (.int .i64 pres0) := by rw [← hX]; exact cell_of_cells (new1_0 wq _) 1
       have z2 : X.cell? ⟨wq.heap.size, 2, none⟩ = some (.string val0) := by rw [← hX]; exact cell_of_cells (new1_0 wq _) 2
       have z3 : X.cell? ⟨wq.heap.size, 3, none⟩ = some (.int .i64 base0) := by rw [← hX]; exact cell_of_cells (new1_0 wq _) 3
       have z4 : X.cell? ⟨wq.heap.size, 4, none⟩ = some (.int .i64 since0) := by rw [← hX]; exact cell_of_cells (new1_0 wq _) 4
       have f0 : X.frozen? ⟨wq.heap.size, 0, none⟩ = false := by rw [← hX]; exact frozen_of_cells (new1_0 wq _) 0
       have f1 : X.frozen? ⟨wq.heap.size, 1, none⟩ = false := by rw [← hX]; exact frozen_of_cells (new1_0 wq _) 1
       have f2 : X.frozen? ⟨wq.heap.size, 2, none⟩ = false := by rw [← hX]; exact frozen_of_cells (new1_0 wq _) 2
       have f3 : X.frozen? ⟨wq.heap.size, 3, none⟩ = false := by rw [← hX]; exact frozen_of_cells (new1_0 wq _) 3
       have f4 : X.frozen? ⟨wq.heap.size, 4, none⟩ = false := by rw [← hX]; exact frozen_of_cells (new1_0 wq _) 4
       have hBw : w.heap.size ≤ wq.heap.size := Nat.le_trans (by omega : w.heap.size ≤ B) (hsz ▸ TC.size)
       have hB0 : W0.heap.size ≤ wq.heap.size := TC.size
       clear hX TC
       generalize wq.heap.size = B at *)
    | (generalize hX : World.setCell _ _ _ = X
       have TX : Turn nothing W0 X := by rw [← hX]; assumption
       have z0 : X.cell? ⟨B, 0, none⟩ = some (.int .i64 ver0) := by rw [← hX]; simp [go_sem, TH.are 0 (by omega)]
       have z1 : X.cell? ⟨B, 1, none⟩ = some (.int .i64 pres0) := by rw [← hX]; simp [go_sem, TH.are 1 (by omega)]
       have z2 : X.cell? ⟨B, 2, none⟩ = some (.string val0) := by rw [← hX]; simp [go_sem, TH.are 2 (by omega)]
       have z3 : X.cell? ⟨B, 3, none⟩ = some (.int .i64 base0) := by rw [← hX]; simp [go_sem, TH.are 3 (by omega)]
       have z4 : X.cell? ⟨B, 4, none⟩ = some (.int .i64 since0) := by rw [← hX]; simp [go_sem, TH.are 4 (by omega)]
       have f0 : X.frozen? ⟨B, 0, none⟩ = false := by rw [← hX]; simp [go_sem, TH.free 0]
       have f1 : X.frozen? ⟨B, 1, none⟩ = false := by rw [← hX]; simp [go_sem, TH.free 1]
       have f2 : X.frozen? ⟨B, 2, none⟩ = false := by rw [← hX]; simp [go_sem, TH.free 2]
       have f3 : X.frozen? ⟨B, 3, none⟩ = false := by rw [← hX]; simp [go_sem, TH.free 3]
       have f4 : X.frozen? ⟨B, 4, none⟩ = false := by rw [← hX]; simp [go_sem, TH.free 4]
       have hBw : w.heap.size ≤ B := by omega
       have hB0 : W0.heap.size ≤ B := by omega
       clear hX TC
       clear TH q0 r0))
  all_goals (have y0_0 := TX.cell x0_0 id)
  all_goals (have y0_1 := TX.cell x0_1 id)
  all_goals (have y1_0 := TX.cell x1_0 id)
  all_goals (have y1_1 := TX.cell x1_1 id)
  all_goals (have y1_2 := TX.cell x1_2 id)
  all_goals (have y1_3 := TX.cell x1_3 id)
  all_goals (have y1_4 := TX.cell x1_4 id)
  all_goals (have y1_5 := TX.cell x1_5 id)
  all_goals (have y1_6 := TX.cell x1_6 id)
  all_goals (have y1_7 := TX.cell x1_7 id)
  all_goals (have y1_8 := TX.cell x1_8 id)
  all_goals (
    have v12 := TX.cell c12 id
    have v6 := TX.cell c6 id
    have HLX := hide ((unhide HL).turn TX)
    go_wp2)
  all_goals (
    have HS : ∀ w', Turn nothing X w' → Turn nothing X w' ∧ w'.cell? ⟨bt, 6 + n, none⟩ = some (.int .i64 ck) ∧ w'.cell? ⟨w.heap.size, 0, none⟩ = some (.int .i64 (n : Int)) := fun w' T => ⟨T, T.cell v6 id, T.cell y0_0 id⟩
    go_region_held3 (fun w' => Turn nothing X w' ∧ w'.cell? ⟨bt, 6 + n, none⟩ = some (.int .i64 ck) ∧ w'.cell? ⟨w.heap.size, 0, none⟩ = some (.int .i64 (n : Int))) ((go_split_ands; apply HS; all_goals (repeat (first | with_reducible assumption | with_reducible exact Turn.refl _ _ | with_reducible apply Turn.step_alloc | with_reducible apply Turn.step_drew | ((with_reducible refine Turn.step_turn (N := nothing) ?_ (by assumption) ?_); rotate_left; · exact fun _ _ h => False.elim h) | ((with_reducible refine Turn.step_set ?_ ?_); rotate_left; · first | exact Or.inr rfl | exact Or.inr (Or.inl rfl) | exact Or.inl (by simp <;> omega)) | ((with_reducible refine Turn.step_turn ?_ (Turn.grown (by assumption)) ?_); rotate_left; · exact fun _ _ h => Or.inr h) | with_reducible apply There.drew | with_reducible apply There.set | ((with_reducible refine There.turn ?_ (by assumption) ?_); rotate_left; · exact id) | assumption)))) (fail))
  all_goals go_split_ands
  all_goals clear HS
  all_goals (
    have HE := hide (And.intro ((unhide HLX).turn (Turn.drew _ _)) (Step.of_turn (τ := τ) (own := own) ((T0.step_turn TX (fun _ _ h => h)).step_drew)))
    go_wp2
    go_end0
    exact ⟨rfl, (unhide HE).1, (unhide HE).2⟩)

theorem learn_any (own : Own) (τ bt : Nat) (g : Gh) (s : PS) (n : Nat) (m : Mes) (base : Int) (w : World) (h : Lies own τ w bt g s) (hf : s.Fine) (hn : n < 6) (h2 : m.key.size ≤ 100) (hen : 0 < s.c.entries) (hul : (s.used n).length ≤ 999) (hks : ∀ k ∈ s.used n, k.size ≤ 100) :
    Calls Tryd.prog 107 #[.pointer (some ⟨bt, 0, none⟩), placeV (n, m.key), mesV m, .int .i64 base] w fun r w' => r = .returned (.tuple #[]) ∧ ∃ own' g', Lies own' τ w' bt g' (s.learn n m base) ∧ Step τ own own' w w' ∧ g.Like g' := by
  unfold PS.learn
  cases he : s.entry n m.key with
  | none => exact learn_none own τ bt g s n m base w h hf hn h2 hen hul hks he
  | some e =>
    dsimp only
    by_cases h3 : e.ver < m.ver
    · rw [if_pos h3]
      exact learn_less own τ bt g s n m base w h hf hn h2 hen hul hks e he h3
    · rw [if_neg h3]
      by_cases h4 : e.ver = m.ver ∧ base ≤ ageAt s.c.drift (s.clk n) e
      · rw [if_pos h4]
        exact learn_same own τ bt g s n m base w h hf hn h2 hen hul hks e he h4.1 h4.2
      · rw [if_neg h4]
        have fin : ∀ {r : Ending} {w' : World}, r = .returned (.tuple #[]) ∧ Lies own τ w' bt g s ∧ Step τ own own w w' → r = .returned (.tuple #[]) ∧ ∃ own' g', Lies own' τ w' bt g' s ∧ Step τ own own' w w' ∧ g.Like g' := fun ⟨a, b, c⟩ => ⟨a, own, g, b, c, Gh.Like.refl g⟩
        by_cases h5 : e.ver = m.ver
        · exact (learn_older own τ bt g s n m base w h hf hn h2 e he h5 (fun e6 => h4 ⟨h5, e6⟩)).mono (fun _ _ => fin)
        · exact (learn_greater own τ bt g s n m base w h hn h2 e he (by omega)).mono (fun _ _ => fin)

end Go.Proofs.YtpdkojgepagbnaaDoor
