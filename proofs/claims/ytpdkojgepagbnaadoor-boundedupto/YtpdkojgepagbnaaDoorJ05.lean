/-
  Fresh, ELAPSED by a tier's clock, an entry as others see it, which version a cache has, which node is a cache.
  An entry as others see it.
  A tier of the program in memory: which block is whose, what it says as plain data, what a call leaves alone.
  An origin and room for entries are made.
-/
import Derived.Test.YtpdkojgepagbnaaDoorJ04
import Derived.Test.YtpdkojgepagbnaaDoorJ02
namespace Go.Proofs.YtpdkojgepagbnaaDoor
set_option maxRecDepth 100000
open Go.RowKit

set_option maxHeartbeats 1000000 in
theorem isFresh_any (bt : Nat) (t : TS) (n : Nat) (e : Ent) (w : World) (hT : TierIs w bt t) (hf : t.Fine) (hn : n < 6) (he : e.Fine (t.clk n)) :
    Calls Tryd.prog 83 #[.pointer (some ⟨bt, 0, none⟩), .int .i64 (n : Int), entV e] w fun r w' => r = .returned (.bool (decide (ageAt t.drift (t.clk n) e ≤ t.budget))) ∧ Turn nothing w w' := by
  have KC := hide (fun w (hT : Hid (TierIs w bt t)) => age_any bt t n e w hT hf hn he)
  have d1 : w.cell? ⟨bt, 2, none⟩ = some (.int .i64 t.budget) := cell_of_cells hT.block 2
  generalize ageAt t.drift (t.clk n) e = x at *
  clear he
  obtain ⟨ver, pres, val, base, since⟩ := e
  unfold entV at *
  dsimp only at *
  generalize hbd : t.budget = bd at *
  have HT := hide hT
  clear hf hT hbd
  go_enter Tryd.func83, Tryd.ntmps83
  go_wp2
  generalize hW : World.alloc _ _ = W0
  have T0 : Turn nothing w W0 := by rw [← hW]; exact (Turn.alloc _ _ _)
  have hsz : W0.heap.size = w.heap.size + 1 := by rw [← hW]; simp
  have x0 : ∃ ty, W0.heap[w.heap.size]? = some (.cells #[.int .i64 ver, .int .i64 pres, .string val, .int .i64 base, .int .i64 since] ty (0, 0)) := by rw [← hW]; exact ⟨_, new1_0 _ _⟩
  have x0_0 : W0.cell? ⟨w.heap.size, 0, none⟩ = some (.int .i64 ver) := by obtain ⟨_, h⟩ := x0; exact cell_of_cells h 0
  have x0_1 : W0.cell? ⟨w.heap.size, 1, none⟩ = some (.int .i64 pres) := by obtain ⟨_, h⟩ := x0; exact cell_of_cells h 1
  have x0_2 : W0.cell? ⟨w.heap.size, 2, none⟩ = some (.string val) := by obtain ⟨_, h⟩ := x0; exact cell_of_cells h 2
  have x0_3 : W0.cell? ⟨w.heap.size, 3, none⟩ = some (.int .i64 base) := by obtain ⟨_, h⟩ := x0; exact cell_of_cells h 3
  have x0_4 : W0.cell? ⟨w.heap.size, 4, none⟩ = some (.int .i64 since) := by obtain ⟨_, h⟩ := x0; exact cell_of_cells h 4
  have HT0 := hide ((unhide HT).turn T0 id)
  have c0 := T0.cell d1 id
  clear hW d1
  have HS : ∀ w', Turn nothing W0 w' → Turn nothing W0 w' ∧ w'.cell? ⟨bt, 2, none⟩ = some (.int .i64 bd) ∧ w'.cell? ⟨w.heap.size, 0, none⟩ = some (.int .i64 ver) ∧ w'.cell? ⟨w.heap.size, 1, none⟩ = some (.int .i64 pres) ∧ w'.cell? ⟨w.heap.size, 2, none⟩ = some (.string val) ∧ w'.cell? ⟨w.heap.size, 3, none⟩ = some (.int .i64 base) ∧ w'.cell? ⟨w.heap.size, 4, none⟩ = some (.int .i64 since) ∧ (Hid (TierIs w' bt t)) := fun w' T => ⟨T, T.cell c0 id, T.cell x0_0 id, T.cell x0_1 id, T.cell x0_2 id, T.cell x0_3 id, T.cell x0_4 id, ((unhide HT0).turn T id)⟩
  go_region_held3 (fun w' => Turn nothing W0 w' ∧ w'.cell? ⟨bt, 2, none⟩ = some (.int .i64 bd) ∧ w'.cell? ⟨w.heap.size, 0, none⟩ = some (.int .i64 ver) ∧ w'.cell? ⟨w.heap.size, 1, none⟩ = some (.int .i64 pres) ∧ w'.cell? ⟨w.heap.size, 2, none⟩ = some (.string val) ∧ w'.cell? ⟨w.heap.size, 3, none⟩ = some (.int .i64 base) ∧ w'.cell? ⟨w.heap.size, 4, none⟩ = some (.int .i64 since) ∧ (Hid (TierIs w' bt t))) ((go_split_ands; apply HS; all_goals (repeat (first | with_reducible assumption | with_reducible exact Turn.refl _ _ | with_reducible apply Turn.step_alloc | with_reducible apply Turn.step_drew | ((with_reducible refine Turn.step_turn (N := nothing) ?_ (by assumption) ?_); rotate_left; · exact fun _ _ h => False.elim h) | ((with_reducible refine Turn.step_set ?_ ?_); rotate_left; · first | exact Or.inr rfl | exact Or.inr (Or.inl rfl) | exact Or.inl (by simp <;> omega)) | ((with_reducible refine Turn.step_turn ?_ (Turn.grown (by assumption)) ?_); rotate_left; · exact fun _ _ h => Or.inr h) | with_reducible apply There.drew | with_reducible apply There.set | ((with_reducible refine There.turn ?_ (by assumption) ?_); rotate_left; · exact id) | assumption)))) (first | (go_at_call 88; go_split_ands; refine (unhide KC _ (by assumption)).mono ?_; rintro e w' ⟨rfl, TC⟩))
  all_goals go_wp2
  all_goals go_ret
  all_goals exact ⟨rfl, T0.step_turn (by (repeat (first | with_reducible assumption | with_reducible exact Turn.refl _ _ | with_reducible apply Turn.step_alloc | with_reducible apply Turn.step_drew | ((with_reducible refine Turn.step_turn (N := nothing) ?_ (by assumption) ?_); rotate_left; · exact fun _ _ h => False.elim h) | ((with_reducible refine Turn.step_set ?_ ?_); rotate_left; · first | exact Or.inr rfl | exact Or.inr (Or.inl rfl) | exact Or.inl (by simp <;> omega)) | ((with_reducible refine Turn.step_turn ?_ (Turn.grown (by assumption)) ?_); rotate_left; · exact fun _ _ h => Or.inr h) | with_reducible apply There.drew | with_reducible apply There.set | ((with_reducible refine There.turn ?_ (by assumption) ?_); rotate_left; · exact id) | assumption))) (fun _ _ h => h)⟩

set_option maxHeartbeats 1000000 in
theorem elapsed_any (bt : Nat) (t : TS) (n : Nat) (s : Int) (w : World) (hT : TierIs w bt t) (hf : t.Fine) (hn : n < 6) (h0 : 0 ≤ s) (h1 : s ≤ t.clk n) :
    Calls Tryd.prog 108 #[.pointer (some ⟨bt, 0, none⟩), .int .i64 (n : Int), .int .i64 s] w fun r w' => r = .returned (.int .i64 (elap t.drift (t.clk n - s))) ∧ Turn nothing w w' := by
  have hc1 := hf.c1 n
  have KC := hide (fun w => Elapsed_any (t.clk n - s) t.drift w (by omega) (by omega) hf.d0 hf.d1)
  have hw : IntKind.i64.wrap (t.clk n - s) = t.clk n - s := by rw [IntKind.wrap_i64]; omega
  have d1 : w.cell? ⟨bt, 1, none⟩ = some (.int .i64 t.drift) := cell_of_cells hT.block 1
  have d2 : w.cell? ⟨bt, 6 + n, none⟩ = some (.int .i64 (t.clk n)) := hT.clk hn
  have i0 : (0 : Int) ≤ (n : Int) := by omega
  have i1 : (n : Int) < 6 := by omega
  generalize elap t.drift (t.clk n - s) = x at *
  clear h0 h1 hc1 hf hT
  generalize t.clk n = c at *
  generalize t.drift = dr at *
  go_enter Tryd.func108, Tryd.ntmps108
  go_wp2
  have HS : ∀ w', Turn nothing w w' → Turn nothing w w' ∧ w'.cell? ⟨bt, 1, none⟩ = some (.int .i64 dr) ∧ w'.cell? ⟨bt, 6 + n, none⟩ = some (.int .i64 c) := fun w' T => ⟨T, T.cell d1 id, T.cell d2 id⟩
  go_region_held3 (fun w' => Turn nothing w w' ∧ w'.cell? ⟨bt, 1, none⟩ = some (.int .i64 dr) ∧ w'.cell? ⟨bt, 6 + n, none⟩ = some (.int .i64 c)) ((go_split_ands; apply HS; all_goals (repeat (first | with_reducible assumption | with_reducible exact Turn.refl _ _ | with_reducible apply Turn.step_alloc | with_reducible apply Turn.step_drew | ((with_reducible refine Turn.step_turn (N := nothing) ?_ (by assumption) ?_); rotate_left; · exact fun _ _ h => False.elim h) | ((with_reducible refine Turn.step_set ?_ ?_); rotate_left; · first | exact Or.inr rfl | exact Or.inr (Or.inl rfl) | exact Or.inl (by simp <;> omega)) | ((with_reducible refine Turn.step_turn ?_ (Turn.grown (by assumption)) ?_); rotate_left; · exact fun _ _ h => Or.inr h) | with_reducible apply There.drew | with_reducible apply There.set | ((with_reducible refine There.turn ?_ (by assumption) ?_); rotate_left; · exact id) | assumption)))) (first | (go_at_call 111; refine (unhide KC _).mono ?_; rintro e w' ⟨rfl, rfl⟩))
  all_goals go_wp2
  all_goals go_ret
  all_goals exact ⟨rfl, by (repeat (first | with_reducible assumption | with_reducible exact Turn.refl _ _ | with_reducible apply Turn.step_alloc | with_reducible apply Turn.step_drew | ((with_reducible refine Turn.step_turn (N := nothing) ?_ (by assumption) ?_); rotate_left; · exact fun _ _ h => False.elim h) | ((with_reducible refine Turn.step_set ?_ ?_); rotate_left; · first | exact Or.inr rfl | exact Or.inr (Or.inl rfl) | exact Or.inl (by simp <;> omega)) | ((with_reducible refine Turn.step_turn ?_ (Turn.grown (by assumption)) ?_); rotate_left; · exact fun _ _ h => Or.inr h) | with_reducible apply There.drew | with_reducible apply There.set | ((with_reducible refine There.turn ?_ (by assumption) ?_); rotate_left; · exact id) | assumption))⟩

end Go.Proofs.YtpdkojgepagbnaaDoor

namespace Go.Proofs.YtpdkojgepagbnaaDoor
set_option maxRecDepth 100000
open Go.RowKit

/-- An entry as others see it. -/
structure See where
  key : ByteArray
  ver : Int
  pres : Int
  val : ByteArray
  age : Int
def seeV (e : See) : Value := .agg #[.string e.key, .int .i64 e.ver, .int .i64 e.pres, .string e.val, .int .i64 e.age]
def seen (k : ByteArray) (e : Ent) (a : Int) : See := ⟨k, e.ver, e.pres, e.val, a⟩

set_option maxHeartbeats 1000000 in
theorem shown_any (bt : Nat) (t : TS) (n : Nat) (k : ByteArray) (e : Ent) (w : World) (hT : TierIs w bt t) (hf : t.Fine) (hn : n < 6) (he : e.Fine (t.clk n)) :
    Calls Tryd.prog 56 #[.pointer (some ⟨bt, 0, none⟩), placeV (n, k), entV e] w fun r w' => r = .returned (seeV (seen k e (ageAt t.drift (t.clk n) e))) ∧ Turn nothing w w' := by
  have KC := hide (fun w (hT : Hid (TierIs w bt t)) => age_any bt t n e w hT hf hn he)
  generalize ageAt t.drift (t.clk n) e = x at *
  clear he
  obtain ⟨ver, pres, val, base, since⟩ := e
  unfold entV placeV seeV seen at *
  dsimp only at *
  have HT := hide hT
  clear hf hT
  go_enter Tryd.func56, Tryd.ntmps56
  go_wp2
  generalize hW : World.alloc _ _ = W0
  have T0 : Turn nothing w W0 := by rw [← hW]; exact (Turn.alloc _ _ _).step_alloc.step_alloc
  have hsz : W0.heap.size = w.heap.size + 1 + 1 + 1 := by rw [← hW]; simp
  have x0 : ∃ ty, W0.heap[w.heap.size]? = some (.cells #[.int .i64 (n : Int), .string k] ty (0, 0)) := by rw [← hW]; exact ⟨_, new3_0 _ _ _ _⟩
  have x0_0 : W0.cell? ⟨w.heap.size, 0, none⟩ = some (.int .i64 (n : Int)) := by obtain ⟨_, h⟩ := x0; exact cell_of_cells h 0
  have x0_1 : W0.cell? ⟨w.heap.size, 1, none⟩ = some (.string k) := by obtain ⟨_, h⟩ := x0; exact cell_of_cells h 1
  have x1 : ∃ ty, W0.heap[w.heap.size + 1]? = some (.cells #[.int .i64 ver, .int .i64 pres, .string val, .int .i64 base, .int .i64 since] ty (0, 0)) := by rw [← hW]; exact ⟨_, new3_1 _ _ _ _⟩
  have x1_0 : W0.cell? ⟨w.heap.size + 1, 0, none⟩ = some (.int .i64 ver) := by obtain ⟨_, h⟩ := x1; exact cell_of_cells h 0
  have x1_1 : W0.cell? ⟨w.heap.size + 1, 1, none⟩ = some (.int .i64 pres) := by obtain ⟨_, h⟩ := x1; exact cell_of_cells h 1
  have x1_2 : W0.cell? ⟨w.heap.size + 1, 2, none⟩ = some (.string val) := by obtain ⟨_, h⟩ := x1; exact cell_of_cells h 2
  have x1_3 : W0.cell? ⟨w.heap.size + 1, 3, none⟩ = some (.int .i64 base) := by obtain ⟨_, h⟩ := x1; exact cell_of_cells h 3
  have x1_4 : W0.cell? ⟨w.heap.size + 1, 4, none⟩ = some (.int .i64 since) := by obtain ⟨_, h⟩ := x1; exact cell_of_cells h 4
  have HT0 := hide ((unhide HT).turn T0 id)
  have hR : There W0 (w.heap.size + 1 + 1) 5 := by rw [← hW]; exact There.new (by simp) (by simp)
  have hbt : bt < w.heap.size := (unhide HT).lt
  clear hW
  have HS : ∀ w', Turn (fun k => k = w.heap.size + 1 + 1) W0 w' → There w' (w.heap.size + 1 + 1) 5 → Turn (fun k => k = w.heap.size + 1 + 1) W0 w' ∧ Hid (There w' (w.heap.size + 1 + 1) 5) ∧ w'.cell? ⟨w.heap.size + 1 + 1, 0, none⟩ = some (peek w' ⟨w.heap.size + 1 + 1, 0, none⟩) ∧ w'.frozen? ⟨w.heap.size + 1 + 1, 0, none⟩ = false ∧ w'.cell? ⟨w.heap.size + 1 + 1, 1, none⟩ = some (peek w' ⟨w.heap.size + 1 + 1, 1, none⟩) ∧ w'.frozen? ⟨w.heap.size + 1 + 1, 1, none⟩ = false ∧ w'.cell? ⟨w.heap.size + 1 + 1, 2, none⟩ = some (peek w' ⟨w.heap.size + 1 + 1, 2, none⟩) ∧ w'.frozen? ⟨w.heap.size + 1 + 1, 2, none⟩ = false ∧ w'.cell? ⟨w.heap.size + 1 + 1, 3, none⟩ = some (peek w' ⟨w.heap.size + 1 + 1, 3, none⟩) ∧ w'.frozen? ⟨w.heap.size + 1 + 1, 3, none⟩ = false ∧ w'.cell? ⟨w.heap.size + 1 + 1, 4, none⟩ = some (peek w' ⟨w.heap.size + 1 + 1, 4, none⟩) ∧ w'.frozen? ⟨w.heap.size + 1 + 1, 4, none⟩ = false ∧ w'.cell? ⟨w.heap.size, 0, none⟩ = some (.int .i64 (n : Int)) ∧ w'.cell? ⟨w.heap.size, 1, none⟩ = some (.string k) ∧ w'.cell? ⟨w.heap.size + 1, 0, none⟩ = some (.int .i64 ver) ∧ w'.cell? ⟨w.heap.size + 1, 1, none⟩ = some (.int .i64 pres) ∧ w'.cell? ⟨w.heap.size + 1, 2, none⟩ = some (.string val) ∧ w'.cell? ⟨w.heap.size + 1, 3, none⟩ = some (.int .i64 base) ∧ w'.cell? ⟨w.heap.size + 1, 4, none⟩ = some (.int .i64 since) ∧ (Hid (TierIs w' bt t)) := fun w' T R => ⟨T, R, peek_some (R.are 0 (by omega)), R.free 0, peek_some (R.are 1 (by omega)), R.free 1, peek_some (R.are 2 (by omega)), R.free 2, peek_some (R.are 3 (by omega)), R.free 3, peek_some (R.are 4 (by omega)), R.free 4, T.cell x0_0 (Nat.ne_of_lt (by dsimp only; omega)), T.cell x0_1 (Nat.ne_of_lt (by dsimp only; omega)), T.cell x1_0 (Nat.ne_of_lt (by dsimp only; omega)), T.cell x1_1 (Nat.ne_of_lt (by dsimp only; omega)), T.cell x1_2 (Nat.ne_of_lt (by dsimp only; omega)), T.cell x1_3 (Nat.ne_of_lt (by dsimp only; omega)), T.cell x1_4 (Nat.ne_of_lt (by dsimp only; omega)), ((unhide HT0).turn T (Nat.ne_of_lt (by omega)))⟩
  go_region_held3 (fun w' => Turn (fun k => k = w.heap.size + 1 + 1) W0 w' ∧ Hid (There w' (w.heap.size + 1 + 1) 5) ∧ w'.cell? ⟨w.heap.size + 1 + 1, 0, none⟩ = some (peek w' ⟨w.heap.size + 1 + 1, 0, none⟩) ∧ w'.frozen? ⟨w.heap.size + 1 + 1, 0, none⟩ = false ∧ w'.cell? ⟨w.heap.size + 1 + 1, 1, none⟩ = some (peek w' ⟨w.heap.size + 1 + 1, 1, none⟩) ∧ w'.frozen? ⟨w.heap.size + 1 + 1, 1, none⟩ = false ∧ w'.cell? ⟨w.heap.size + 1 + 1, 2, none⟩ = some (peek w' ⟨w.heap.size + 1 + 1, 2, none⟩) ∧ w'.frozen? ⟨w.heap.size + 1 + 1, 2, none⟩ = false ∧ w'.cell? ⟨w.heap.size + 1 + 1, 3, none⟩ = some (peek w' ⟨w.heap.size + 1 + 1, 3, none⟩) ∧ w'.frozen? ⟨w.heap.size + 1 + 1, 3, none⟩ = false ∧ w'.cell? ⟨w.heap.size + 1 + 1, 4, none⟩ = some (peek w' ⟨w.heap.size + 1 + 1, 4, none⟩) ∧ w'.frozen? ⟨w.heap.size + 1 + 1, 4, none⟩ = false ∧ w'.cell? ⟨w.heap.size, 0, none⟩ = some (.int .i64 (n : Int)) ∧ w'.cell? ⟨w.heap.size, 1, none⟩ = some (.string k) ∧ w'.cell? ⟨w.heap.size + 1, 0, none⟩ = some (.int .i64 ver) ∧ w'.cell? ⟨w.heap.size + 1, 1, none⟩ = some (.int .i64 pres) ∧ w'.cell? ⟨w.heap.size + 1, 2, none⟩ = some (.string val) ∧ w'.cell? ⟨w.heap.size + 1, 3, none⟩ = some (.int .i64 base) ∧ w'.cell? ⟨w.heap.size + 1, 4, none⟩ = some (.int .i64 since) ∧ (Hid (TierIs w' bt t))) ((go_split_ands; apply HS; all_goals (repeat (first | with_reducible assumption | with_reducible exact Turn.refl _ _ | with_reducible apply Turn.step_alloc | with_reducible apply Turn.step_drew | ((with_reducible refine Turn.step_turn (N := nothing) ?_ (by assumption) ?_); rotate_left; · exact fun _ _ h => False.elim h) | ((with_reducible refine Turn.step_set ?_ ?_); rotate_left; · first | exact Or.inr rfl | exact Or.inr (Or.inl rfl) | exact Or.inl (by simp <;> omega)) | ((with_reducible refine Turn.step_turn ?_ (Turn.grown (by assumption)) ?_); rotate_left; · exact fun _ _ h => Or.inr h) | with_reducible apply There.drew | with_reducible apply There.set | ((with_reducible refine There.turn ?_ (by assumption) ?_); rotate_left; · exact id) | assumption)))) (first | (go_at_call 88; go_split_ands; refine (unhide KC _ (by assumption)).mono ?_; rintro e w' ⟨rfl, TC⟩))
  have hR1 := hR.drew.turn TC id
  have z0 := hR1.are 0 (by omega)
  have z1 := hR1.are 1 (by omega)
  have z2 := hR1.are 2 (by omega)
  have z3 := hR1.are 3 (by omega)
  have z4 := hR1.are 4 (by omega)
  rename_i hHeld
  clear hHeld
  go_wp2
  exact bodyPost_ret (v := .agg #[.string k, .int .i64 ver, .int .i64 pres, .string val, .int .i64 x]) (by simp [results, Tryd.results56, go_sem, z0, z1, z2, z3, z4]) rfl ⟨rfl, by (repeat (first | with_reducible assumption | with_reducible exact Turn.refl _ _ | with_reducible apply Turn.step_alloc | with_reducible apply Turn.step_drew | ((with_reducible refine Turn.step_turn (N := nothing) ?_ (by assumption) ?_); rotate_left; · exact fun _ _ h => False.elim h) | ((with_reducible refine Turn.step_set ?_ ?_); rotate_left; · first | exact Or.inr rfl | exact Or.inr (Or.inl rfl) | exact Or.inl (by simp <;> omega)) | ((with_reducible refine Turn.step_turn ?_ (Turn.grown (by assumption)) ?_); rotate_left; · exact fun _ _ h => Or.inr h) | with_reducible apply There.drew | with_reducible apply There.set | ((with_reducible refine There.turn ?_ (by assumption) ?_); rotate_left; · exact id) | assumption))⟩

end Go.Proofs.YtpdkojgepagbnaaDoor

namespace Go.Proofs.YtpdkojgepagbnaaDoor
set_option maxRecDepth 100000
open Go.RowKit
open Tier (Mes Ans Conf)

def mesL (m : Mes) : List Value := [.int .i64 m.kind, .int .i64 m.frm, .int .i64 m.to, .string m.key, .int .i64 m.serial, .int .i64 m.ver, .int .i64 m.age, .int .i64 m.pres, .string m.val]
def ansL (a : Ans) : List Value := [.int .i64 a.node, .int .i64 a.id, .int .i64 a.kind, .int .i64 a.ver, .int .i64 a.pres, .string a.val, .int .i64 a.age]

/-- One who waits: a child, or a client (child 0). -/
structure Wt where
  child : Int
  serial : Int
  tag : Int
  id : Int
def wtL (x : Wt) : List Value := [.int .i64 x.child, .int .i64 x.serial, .int .i64 x.tag, .int .i64 x.id]

/-- A fetch; the slice in which those who wait lie. -/
structure Ft where
  serial : Int
  sent : Int
  l : List Wt
  v : Value
def ftV (f : Ft) : Value := .agg #[.int .i64 f.serial, .int .i64 f.sent, f.v]

structure Rec where
  ver : Int
  pres : Int
  val : ByteArray
def recV (r : Rec) : Value := .agg #[.int .i64 r.ver, .int .i64 r.pres, .string r.val]

/-- A tier of the program, as plain data. -/
structure PS where
  c : Conf
  recs : List (ByteArray × Rec)
  clk : Nat → Int
  found : List ((Nat × ByteArray) × Ent)
  used : Nat → List ByteArray
  fts : List ((Nat × ByteArray) × Ft)
  serial : Int
  net : List Mes
  answers : List Ans

/-- Which block is whose: a tier's number, and what of it. -/
abbrev Own := Nat → Option (Nat × Nat)
def Mine (own : Own) (τ : Nat) (k : Nat) : Prop := ∃ x, own k = some (τ, x)

/-- What a call on tier τ leaves alone. -/
structure Step (τ : Nat) (own own' : Own) (w w' : World) : Prop where
  turn : Turn (Mine own τ) w w'
  same : ∀ k, k < w.heap.size → own' k = own k ∨ (Mine own τ k ∧ (own' k = none ∨ Mine own' τ k))

theorem Step.refl (τ : Nat) (own : Own) (w : World) : Step τ own own w w := ⟨Turn.refl _ _, fun _ _ => Or.inl rfl⟩
theorem Step.trans {τ : Nat} {o o1 o2 : Own} {a b c : World} (h : Step τ o o1 a b) (g : Step τ o1 o2 b c) : Step τ o o2 a c :=
  ⟨h.turn.trans g.turn (fun k hk ⟨x, hx⟩ => by
      rcases h.same k hk with e | ⟨hm, _⟩
      · exact ⟨x, by rw [← e]; exact hx⟩
      · exact hm), fun k hk => by
    rcases g.same k (Nat.lt_of_lt_of_le hk h.turn.size) with e | ⟨hm, e⟩
    · rcases h.same k hk with e' | ⟨hm', e'⟩
      · exact Or.inl (e.trans e')
      · exact Or.inr ⟨hm', e'.imp (fun e' => e.trans e') (fun ⟨x, hx⟩ => ⟨x, e.trans hx⟩)⟩
    · rcases h.same k hk with e' | ⟨hm', _⟩
      · exact Or.inr ⟨by obtain ⟨x, hx⟩ := hm; exact ⟨x, by rw [← e']; exact hx⟩, e⟩
      · exact Or.inr ⟨hm', e⟩⟩
theorem Step.free {τ : Nat} {own own' : Own} {a b : World} (h : Step τ own own' a b) {k : Nat} (hk : k < a.heap.size) (ho : own k = none) : own' k = none := by
  rcases h.same k hk with e | ⟨⟨x, hx⟩, _⟩
  · rw [e]; exact ho
  · rw [ho] at hx; cases hx
theorem Step.of_turn {τ : Nat} {own : Own} {a b : World} (h : Turn nothing a b) : Step τ own own a b := ⟨h.mono (fun _ _ h => h.elim), fun _ _ => Or.inl rfl⟩
theorem Step.cell {τ : Nat} {o o' : Own} {w w' : World} (h : Step τ o o' w w') {a : Addr} {v : Value} (hc : w.cell? a = some v) (hm : o a.block = none) : w'.cell? a = some v :=
  h.turn.cell hc (fun ⟨x, hx⟩ => by rw [hm] at hx; cases hx)

/-- A slice of the tier's own. -/
structure Row (own : Own) (τ x : Nat) (w : World) (e size : Nat) (v : Value) (l : List (List Value)) : Prop where
  row : w.ownsRow 0 e size v l.length l.flatten
  mine : ∀ k, v.ownBlock = some k → own k = some (τ, x)

theorem Row.lt {own : Own} {τ x e size : Nat} {w : World} {v : Value} {l : List (List Value)} (h : Row own τ x w e size v l) {k : Nat} (hk : v.ownBlock = some k) : k < w.heap.size := (h.row.lt k hk).2

theorem Row.frame {own own' : Own} {τ x e size : Nat} {w w' : World} {v : Value} {l : List (List Value)} (h : Row own τ x w e size v l) (hf : ∀ k, k < w.heap.size → own k = some (τ, x) → w'.heap[k]? = w.heap[k]? ∧ own' k = own k) : Row own' τ x w' e size v l := by
  have hlt := h.row.lt
  obtain ⟨⟨hl, hv⟩, hm⟩ := h
  refine ⟨⟨hl, ?_⟩, fun k hk => ?_⟩
  · rcases hv with hv | ⟨g, cap, cur, rfl, hb, hg, r⟩
    · exact Or.inl hv
    · exact Or.inr ⟨g, cap, cur, rfl, hb, (hf g (hlt g rfl).2 (hm g rfl)).1.trans hg, r⟩
  · rw [(hf k (hlt k hk).2 (hm k hk)).2]; exact hm k hk

/-- What lies where. -/
structure Gh where
  pv : Value
  bo : Nat
  bm : Nat
  be : Nat
  bf : Nat
  bq : Nat
  u : Nat → Value
  nv : Value
  av : Value

/-- What never moves lies where it lay. -/
structure Gh.Like (g g' : Gh) : Prop where
  pv : g'.pv = g.pv
  bo : g'.bo = g.bo
  bm : g'.bm = g.bm
  be : g'.be = g.be
  bf : g'.bf = g.bf
  bq : g'.bq = g.bq
theorem Gh.Like.refl (g : Gh) : g.Like g := ⟨rfl, rfl, rfl, rfl, rfl, rfl⟩
theorem Gh.Like.trans {a b c : Gh} (h : a.Like b) (k : b.Like c) : a.Like c := ⟨k.pv.trans h.pv, k.bo.trans h.bo, k.bm.trans h.bm, k.be.trans h.be, k.bf.trans h.bf, k.bq.trans h.bq⟩

def PS.ts (s : PS) (g : Gh) : TS := ⟨g.pv, s.c.drift, s.c.budget, s.c.entries, s.c.waiters, g.bo, s.clk, g.be, g.bq, s.serial, g.nv, g.av⟩
def entsC (s : PS) (g : Gh) : Array Value := #[.int .i64 s.c.entries, .map (some g.bf), g.u 0, g.u 1, g.u 2, g.u 3, g.u 4, g.u 5]

/-- In w lies a tier: s. (1 its block, 2 its parents, 3 the origin's, 4 its records, 5 the entries', 6 found, 7 to 12 used, 13 the fetches, 14 the net, 15 the answers, 16 and on: who waits, by serial.) -/
structure Lies (own : Own) (τ : Nat) (w : World) (bt : Nat) (g : Gh) (s : PS) : Prop where
  top : ∀ k, w.heap.size ≤ k → own k = none
  tier : TierIs w bt (s.ts g)
  tierO : own bt = some (τ, 1)
  pars : Row own τ 2 w 3 1 g.pv (s.c.parents.map fun n => [.int .i64 n])
  orig : w.heap[g.bo]? = some (.cells #[.map (some g.bm)] 154 (0, 0))
  origO : own g.bo = some (τ, 3)
  recs : MapIs Tryd.prog 9 w g.bm (rawL .string recV s.recs)
  recsO : own g.bm = some (τ, 4)
  ents : w.heap[g.be]? = some (.cells (entsC s g) 144 (0, 0))
  entsO : own g.be = some (τ, 5)
  found : MapIs Tryd.prog 100 w g.bf (rawL placeV entV s.found)
  foundO : own g.bf = some (τ, 6)
  used : ∀ i, i < 6 → Row own τ (7 + i) w 9 1 (g.u i) ((s.used i).map fun k => [.string k])
  fts : MapIs Tryd.prog 100 w g.bq (rawL placeV ftV s.fts)
  ftsO : own g.bq = some (τ, 13)
  waits : ∀ p ∈ s.fts, Row own τ (16 + p.2.serial.toNat) w 105 4 p.2.v (p.2.l.map wtL)
  net : Row own τ 14 w 23 9 g.nv (s.net.map mesL)
  ans : Row own τ 15 w 56 7 g.av (s.answers.map ansL)

/-- The tier stays what it is while nothing of its own is written. -/
theorem Lies.frame {own own' : Own} {τ : Nat} {w w' : World} {bt : Nat} {g : Gh} {s : PS} (h : Lies own τ w bt g s) (hf : ∀ k, k < w.heap.size → Mine own τ k → w'.heap[k]? = w.heap[k]? ∧ own' k = own k) (ht : ∀ k, w'.heap.size ≤ k → own' k = none) : Lies own' τ w' bt g s := by
  have hR : ∀ {x e size : Nat} {v : Value} {l : List (List Value)}, Row own τ x w e size v l → Row own' τ x w' e size v l := fun hr => hr.frame (fun k hk hx => hf k hk ⟨_, hx⟩)
  have hB : ∀ {k x : Nat} {o : Obj}, own k = some (τ, x) → w.heap[k]? = some o → w'.heap[k]? = some o := fun hx hk => (hf _ (heap_lt hk) ⟨_, hx⟩).1.trans hk
  have hO : ∀ {k x : Nat}, own k = some (τ, x) → own' k = some (τ, x) := fun {k x} hx => by
    by_cases hk : k < w.heap.size
    · rw [(hf k hk ⟨_, hx⟩).2]; exact hx
    · rw [h.top k (by omega)] at hx; cases hx
  have hM : ∀ {k x ty : Nat} {l : List (Value × Value)}, own k = some (τ, x) → MapIs Tryd.prog ty w k l → MapIs Tryd.prog ty w' k l := fun hx hm => hm.heap (hf _ hm.lt ⟨_, hx⟩).1
  exact ⟨ht, ⟨hB h.tierO h.tier.block⟩, hO h.tierO, hR h.pars, hB h.origO h.orig, hO h.origO, hM h.recsO h.recs, hO h.recsO, hB h.entsO h.ents, hO h.entsO, hM h.foundO h.found, hO h.foundO, fun i hi => hR (h.used i hi), hM h.ftsO h.fts, hO h.ftsO, fun p hp => hR (h.waits p hp), hR h.net, hR h.ans⟩

theorem Lies.turn {own : Own} {τ : Nat} {w w' : World} {bt : Nat} {g : Gh} {s : PS} (h : Lies own τ w bt g s) (T : Turn nothing w w') : Lies own τ w' bt g s :=
  h.frame (fun k hk _ => ⟨T.block k hk id, rfl⟩) (fun k hk => h.top k (Nat.le_trans T.size hk))

/-- The numbers of a tier are of the size that they have. -/
structure PS.Fine (s : PS) : Prop where
  ts : ∀ g, (s.ts g).Fine
  ents : ∀ p ∈ s.found, p.2.Fine (s.clk p.1.1) ∧ p.1.1 < 6 ∧ p.1.2.size ≤ 4
  fts : ∀ p ∈ s.fts, p.1.1 < 6 ∧ p.1.2.size ≤ 4 ∧ 0 < p.2.serial ∧ p.2.serial ≤ s.serial ∧ 0 ≤ p.2.sent ∧ p.2.sent ≤ s.clk p.1.1 ∧ p.2.l.length ≤ 100
  apart : s.fts.Pairwise (fun p q => p.2.serial ≠ q.2.serial)
  few : s.found.length ≤ 1000000000000 ∧ s.fts.length ≤ 1000000000000
  small : 0 ≤ s.serial ∧ s.serial ≤ 1000000000000 ∧ s.net.length ≤ 1000000000000 ∧ s.answers.length ≤ 1000000000000

end Go.Proofs.YtpdkojgepagbnaaDoor

namespace Go.Proofs.YtpdkojgepagbnaaDoor
set_option maxRecDepth 100000
open Go.RowKit
open Tier (Mes Ans Conf)
attribute [local go_sem ↓] Go.wp_at_zero Go.wp_at_succ

theorem run_makeMap1 (w : World) : (Instr.makeMap 152 none).run Tryd.prog w = .ok (.map (some w.heap.size)) (w.alloc (.map #[] 0)) := by kernel_rfl
theorem run_makeMap2 (w : World) : (Instr.makeMap 141 none).run Tryd.prog w = .ok (.map (some w.heap.size)) (w.alloc (.map #[] 0)) := by kernel_rfl

set_option maxHeartbeats 1000000 in
theorem ONew_any (w : World) : Calls Tryd.prog 71 #[] w fun r w' => ∃ bo bm, r = .returned (.pointer (some ⟨bo, 0, none⟩)) ∧ Turn nothing w w' ∧ (w.heap.size ≤ bo ∧ w.heap.size ≤ bm ∧ bo ≠ bm ∧ bo < w'.heap.size ∧ bm < w'.heap.size) ∧ w'.heap[bo]? = some (.cells #[.map (some bm)] 154 (0, 0)) ∧ MapIs Tryd.prog 9 w' bm [] := by
  have hmk := run_makeMap1
  go_enter Tryd.func71, Tryd.ntmps71
  go_wp2
  go_ret
  exact ⟨_, _, rfl, (Turn.alloc _ _ _).step_alloc, (by simp; omega), new2_1 w _ _, (MapIs.made Tryd.prog 9 w).heap ((Turn.alloc nothing _ _).block _ (by simp) id)⟩

set_option maxHeartbeats 1000000 in
theorem ENew_any (m : Int) (w : World) : Calls Tryd.prog 72 #[.int .i64 m] w fun r w' => ∃ be bf, r = .returned (.pointer (some ⟨be, 0, none⟩)) ∧ Turn nothing w w' ∧ (w.heap.size ≤ be ∧ w.heap.size ≤ bf ∧ be ≠ bf ∧ be < w'.heap.size ∧ bf < w'.heap.size) ∧ w'.heap[be]? = some (.cells #[.int .i64 m, .map (some bf), .slice none 0 0, .slice none 0 0, .slice none 0 0, .slice none 0 0, .slice none 0 0, .slice none 0 0] 144 (0, 0)) ∧ MapIs Tryd.prog 100 w' bf [] := by
  have hmk := run_makeMap2
  go_enter Tryd.func72, Tryd.ntmps72
  go_wp2
  go_ret
  exact ⟨_, _, rfl, (Turn.alloc _ _ _).step_alloc, (by simp; omega), new2_1 w _ _, (MapIs.made Tryd.prog 100 w).heap ((Turn.alloc nothing _ _).block _ (by simp) id)⟩

end Go.Proofs.YtpdkojgepagbnaaDoor
