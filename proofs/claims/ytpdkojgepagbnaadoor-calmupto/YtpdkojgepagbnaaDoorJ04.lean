/-
  The caches' entries in memory: how a place and an entry lie as values; a look-up of an entry.
  (*Entries).At.
  ELAPSED, ages; the tier's own block.
  The tier's own block; ages of its entries by its clocks.
  Fresh, ELAPSED by a tier's clock, an entry as others see it, which version a cache has, which node is a cache.
-/
import Derived.Test.YtpdkojgepagbnaaDoorJ01
import Derived.WalkKit
import Derived.ProofKit
import Derived.Deep.RegionHeld3
import Derived.Deep.DrawnRows
import Derived.Test.YtpdkojgepagbnaaDoorJ03
import Derived.BigQuiet
import Derived.Deep.QuietTactic
import Derived.Deep.CutRange
import Derived.Deep.AppendLies
import Derived.Maps.AppendAt
namespace Go.Proofs.YtpdkojgepagbnaaDoor
set_option maxRecDepth 100000
open Go.RowKit
open Go.Maps (Keyed)

/-- What a call may turn: the blocks of M, and new ones. -/
structure Turn (M : Nat → Prop) (w w' : World) : Prop where
  os : w'.os = w.os
  tape : w'.tape = w.tape
  output : w'.output = w.output
  size : w.heap.size ≤ w'.heap.size
  block : ∀ k, k < w.heap.size → ¬ M k → w'.heap[k]? = w.heap[k]?

def nothing : Nat → Prop := fun _ => False

theorem Turn.refl (M : Nat → Prop) (w : World) : Turn M w w := ⟨rfl, rfl, rfl, Nat.le_refl _, fun _ _ _ => rfl⟩
theorem Turn.trans {M N : Nat → Prop} {a b c : World} (h : Turn M a b) (g : Turn N b c) (hs : ∀ k, k < a.heap.size → N k → M k) : Turn M a c :=
  ⟨g.os.trans h.os, g.tape.trans h.tape, g.output.trans h.output, Nat.le_trans h.size g.size, fun k hk hm => (g.block k (Nat.lt_of_lt_of_le hk h.size) fun hn => hm (hs k hk hn)).trans (h.block k hk hm)⟩
theorem Turn.mono {M N : Nat → Prop} {a b : World} (h : Turn M a b) (hs : ∀ k, k < a.heap.size → M k → N k) : Turn N a b :=
  ⟨h.os, h.tape, h.output, h.size, fun k hk hn => h.block k hk fun hm => hn (hs k hk hm)⟩
theorem Turn.alloc (M : Nat → Prop) (w : World) (o : Obj) : Turn M w (w.alloc o) :=
  ⟨rfl, rfl, rfl, by simp, fun k hk _ => (MapKept.heap_alloc w o).2 k hk⟩
theorem Turn.drew (M : Nat → Prop) (w : World) : Turn M w w.drew := ⟨rfl, rfl, rfl, Nat.le_refl _, fun _ _ _ => rfl⟩
theorem Turn.grown {w w' : World} {row : Option Nat} (h : w.grownBy w' row) : Turn (fun k => some k = row) w w' :=
  ⟨h.os, h.tape, h.output, h.size, fun k hk hm => h.block k hk hm⟩

theorem Turn.step_alloc {M : Nat → Prop} {a w : World} {o : Obj} (h : Turn M a w) : Turn M a (w.alloc o) := h.trans (Turn.alloc nothing w o) (fun _ _ h => h.elim)
theorem Turn.step_drew {M : Nat → Prop} {a w : World} (h : Turn M a w) : Turn M a w.drew := h.trans (Turn.drew nothing w) (fun _ _ h => h.elim)
theorem heap_setCell_other {w : World} {a : Addr} {v : Value} {k : Nat} (h : k ≠ a.block) : (w.setCell a v).heap[k]? = w.heap[k]? := RowKit.Below.heap_setCell _ _ _ _ h
theorem Turn.step_set {M : Nat → Prop} {a w : World} {p : Addr} {v : Value} (h : Turn M a w) (hp : a.heap.size ≤ p.block ∨ M p.block) : Turn M a (w.setCell p v) :=
  ⟨h.os, h.tape, h.output, by simpa using h.size, fun k hk hm => (heap_setCell_other (fun e => hp.elim (fun h1 => absurd h1 (by rw [← e]; omega)) (fun h1 => hm (by rw [e]; exact h1)))).trans (h.block k hk hm)⟩
theorem Turn.step_turn {M N : Nat → Prop} {a w w' : World} (h : Turn M a w) (g : Turn N w w') (hs : ∀ k, k < a.heap.size → N k → M k) : Turn M a w' := h.trans g hs

theorem new1_0 (w : World) (o0 : Obj) : (w.alloc o0).heap[w.heap.size]? = some o0 := by have h := (MapKept.heap_alloc w o0).1; simpa using h
theorem new2_0 (w : World) (o0 : Obj) (o1 : Obj) : ((w.alloc o0).alloc o1).heap[w.heap.size]? = some o0 := ((MapKept.heap_alloc (w.alloc o0) o1).2 _ (by simp <;> omega)).trans (new1_0 w o0)
theorem new2_1 (w : World) (o0 : Obj) (o1 : Obj) : ((w.alloc o0).alloc o1).heap[w.heap.size + 1]? = some o1 := by have h := (MapKept.heap_alloc (w.alloc o0) o1).1; simpa using h
theorem new3_0 (w : World) (o0 : Obj) (o1 : Obj) (o2 : Obj) : (((w.alloc o0).alloc o1).alloc o2).heap[w.heap.size]? = some o0 := ((MapKept.heap_alloc ((w.alloc o0).alloc o1) o2).2 _ (by simp <;> omega)).trans (new2_0 w o0 o1)
theorem new3_1 (w : World) (o0 : Obj) (o1 : Obj) (o2 : Obj) : (((w.alloc o0).alloc o1).alloc o2).heap[w.heap.size + 1]? = some o1 := ((MapKept.heap_alloc ((w.alloc o0).alloc o1) o2).2 _ (by simp <;> omega)).trans (new2_1 w o0 o1)
theorem new3_2 (w : World) (o0 : Obj) (o1 : Obj) (o2 : Obj) : (((w.alloc o0).alloc o1).alloc o2).heap[w.heap.size + 1 + 1]? = some o2 := by have h := (MapKept.heap_alloc ((w.alloc o0).alloc o1) o2).1; simpa using h
theorem new4_0 (w : World) (o0 : Obj) (o1 : Obj) (o2 : Obj) (o3 : Obj) : ((((w.alloc o0).alloc o1).alloc o2).alloc o3).heap[w.heap.size]? = some o0 := ((MapKept.heap_alloc (((w.alloc o0).alloc o1).alloc o2) o3).2 _ (by simp <;> omega)).trans (new3_0 w o0 o1 o2)
theorem new4_1 (w : World) (o0 : Obj) (o1 : Obj) (o2 : Obj) (o3 : Obj) : ((((w.alloc o0).alloc o1).alloc o2).alloc o3).heap[w.heap.size + 1]? = some o1 := ((MapKept.heap_alloc (((w.alloc o0).alloc o1).alloc o2) o3).2 _ (by simp <;> omega)).trans (new3_1 w o0 o1 o2)
theorem new4_2 (w : World) (o0 : Obj) (o1 : Obj) (o2 : Obj) (o3 : Obj) : ((((w.alloc o0).alloc o1).alloc o2).alloc o3).heap[w.heap.size + 1 + 1]? = some o2 := ((MapKept.heap_alloc (((w.alloc o0).alloc o1).alloc o2) o3).2 _ (by simp <;> omega)).trans (new3_2 w o0 o1 o2)
theorem new4_3 (w : World) (o0 : Obj) (o1 : Obj) (o2 : Obj) (o3 : Obj) : ((((w.alloc o0).alloc o1).alloc o2).alloc o3).heap[w.heap.size + 1 + 1 + 1]? = some o3 := by have h := (MapKept.heap_alloc (((w.alloc o0).alloc o1).alloc o2) o3).1; simpa using h
theorem new5_0 (w : World) (o0 : Obj) (o1 : Obj) (o2 : Obj) (o3 : Obj) (o4 : Obj) : (((((w.alloc o0).alloc o1).alloc o2).alloc o3).alloc o4).heap[w.heap.size]? = some o0 := ((MapKept.heap_alloc ((((w.alloc o0).alloc o1).alloc o2).alloc o3) o4).2 _ (by simp <;> omega)).trans (new4_0 w o0 o1 o2 o3)
theorem new5_1 (w : World) (o0 : Obj) (o1 : Obj) (o2 : Obj) (o3 : Obj) (o4 : Obj) : (((((w.alloc o0).alloc o1).alloc o2).alloc o3).alloc o4).heap[w.heap.size + 1]? = some o1 := ((MapKept.heap_alloc ((((w.alloc o0).alloc o1).alloc o2).alloc o3) o4).2 _ (by simp <;> omega)).trans (new4_1 w o0 o1 o2 o3)
theorem new5_2 (w : World) (o0 : Obj) (o1 : Obj) (o2 : Obj) (o3 : Obj) (o4 : Obj) : (((((w.alloc o0).alloc o1).alloc o2).alloc o3).alloc o4).heap[w.heap.size + 1 + 1]? = some o2 := ((MapKept.heap_alloc ((((w.alloc o0).alloc o1).alloc o2).alloc o3) o4).2 _ (by simp <;> omega)).trans (new4_2 w o0 o1 o2 o3)
theorem new5_3 (w : World) (o0 : Obj) (o1 : Obj) (o2 : Obj) (o3 : Obj) (o4 : Obj) : (((((w.alloc o0).alloc o1).alloc o2).alloc o3).alloc o4).heap[w.heap.size + 1 + 1 + 1]? = some o3 := ((MapKept.heap_alloc ((((w.alloc o0).alloc o1).alloc o2).alloc o3) o4).2 _ (by simp <;> omega)).trans (new4_3 w o0 o1 o2 o3)
theorem new5_4 (w : World) (o0 : Obj) (o1 : Obj) (o2 : Obj) (o3 : Obj) (o4 : Obj) : (((((w.alloc o0).alloc o1).alloc o2).alloc o3).alloc o4).heap[w.heap.size + 1 + 1 + 1 + 1]? = some o4 := by have h := (MapKept.heap_alloc ((((w.alloc o0).alloc o1).alloc o2).alloc o3) o4).1; simpa using h
theorem new6_0 (w : World) (o0 : Obj) (o1 : Obj) (o2 : Obj) (o3 : Obj) (o4 : Obj) (o5 : Obj) : ((((((w.alloc o0).alloc o1).alloc o2).alloc o3).alloc o4).alloc o5).heap[w.heap.size]? = some o0 := ((MapKept.heap_alloc (((((w.alloc o0).alloc o1).alloc o2).alloc o3).alloc o4) o5).2 _ (by simp <;> omega)).trans (new5_0 w o0 o1 o2 o3 o4)
theorem new6_1 (w : World) (o0 : Obj) (o1 : Obj) (o2 : Obj) (o3 : Obj) (o4 : Obj) (o5 : Obj) : ((((((w.alloc o0).alloc o1).alloc o2).alloc o3).alloc o4).alloc o5).heap[w.heap.size + 1]? = some o1 := ((MapKept.heap_alloc (((((w.alloc o0).alloc o1).alloc o2).alloc o3).alloc o4) o5).2 _ (by simp <;> omega)).trans (new5_1 w o0 o1 o2 o3 o4)
theorem new6_2 (w : World) (o0 : Obj) (o1 : Obj) (o2 : Obj) (o3 : Obj) (o4 : Obj) (o5 : Obj) : ((((((w.alloc o0).alloc o1).alloc o2).alloc o3).alloc o4).alloc o5).heap[w.heap.size + 1 + 1]? = some o2 := ((MapKept.heap_alloc (((((w.alloc o0).alloc o1).alloc o2).alloc o3).alloc o4) o5).2 _ (by simp <;> omega)).trans (new5_2 w o0 o1 o2 o3 o4)
theorem new6_3 (w : World) (o0 : Obj) (o1 : Obj) (o2 : Obj) (o3 : Obj) (o4 : Obj) (o5 : Obj) : ((((((w.alloc o0).alloc o1).alloc o2).alloc o3).alloc o4).alloc o5).heap[w.heap.size + 1 + 1 + 1]? = some o3 := ((MapKept.heap_alloc (((((w.alloc o0).alloc o1).alloc o2).alloc o3).alloc o4) o5).2 _ (by simp <;> omega)).trans (new5_3 w o0 o1 o2 o3 o4)
theorem new6_4 (w : World) (o0 : Obj) (o1 : Obj) (o2 : Obj) (o3 : Obj) (o4 : Obj) (o5 : Obj) : ((((((w.alloc o0).alloc o1).alloc o2).alloc o3).alloc o4).alloc o5).heap[w.heap.size + 1 + 1 + 1 + 1]? = some o4 := ((MapKept.heap_alloc (((((w.alloc o0).alloc o1).alloc o2).alloc o3).alloc o4) o5).2 _ (by simp <;> omega)).trans (new5_4 w o0 o1 o2 o3 o4)
theorem new6_5 (w : World) (o0 : Obj) (o1 : Obj) (o2 : Obj) (o3 : Obj) (o4 : Obj) (o5 : Obj) : ((((((w.alloc o0).alloc o1).alloc o2).alloc o3).alloc o4).alloc o5).heap[w.heap.size + 1 + 1 + 1 + 1 + 1]? = some o5 := by have h := (MapKept.heap_alloc (((((w.alloc o0).alloc o1).alloc o2).alloc o3).alloc o4) o5).1; simpa using h

theorem cell_of_cells {w : World} {b : Nat} {cs : Array Value} {ty : TypeId} {fr : Nat × Nat} (h : w.heap[b]? = some (.cells cs ty fr)) (i : Nat) : w.cell? ⟨b, i, none⟩ = cs[i]? := by simp [World.cell?, h]
theorem frozen_of_cells {w : World} {b : Nat} {cs : Array Value} {ty : TypeId} (h : w.heap[b]? = some (.cells cs ty (0, 0))) (i : Nat) : w.frozen? ⟨b, i, none⟩ = false := by simp [World.frozen?, h]

theorem cell_lt {w : World} {a : Addr} {v : Value} (h : w.cell? a = some v) : a.block < w.heap.size := by
  unfold World.cell? at h
  split at h
  · rename_i h1; exact (Array.getElem?_eq_some_iff.1 h1).1
  · cases h

theorem Turn.cell {M : Nat → Prop} {w w' : World} (h : Turn M w w') {a : Addr} {v : Value} (hc : w.cell? a = some v) (hm : ¬ M a.block) : w'.cell? a = some v := by
  rw [World.cell?_of_block (h.block _ (cell_lt hc) hm)]; exact hc
theorem Turn.froz {M : Nat → Prop} {w w' : World} (h : Turn M w w') {a : Addr} {v : Value} (hc : w.cell? a = some v) (hm : ¬ M a.block) (hf : w.frozen? a = false) : w'.frozen? a = false := by
  rw [World.frozen?_of_block (h.block _ (cell_lt hc) hm)]; exact hf

theorem laidOut : laidOutB Tryd.prog = true := by kernel_rfl

structure Ent where
  ver : Int
  pres : Int
  val : ByteArray
  base : Int
  since : Int

def placeV (p : Nat × ByteArray) : Value := .agg #[.int .i64 (p.1 : Int), .string p.2]
def entV (e : Ent) : Value := .agg #[.int .i64 e.ver, .int .i64 e.pres, .string e.val, .int .i64 e.base, .int .i64 e.since]
def noEnt : Ent := ⟨0, 0, ⟨#[]⟩, 0, 0⟩

theorem placeV_inj (a b : Nat × ByteArray) (h : placeV a = placeV b) : a = b := by
  obtain ⟨a1, a2⟩ := a
  obtain ⟨b1, b2⟩ := b
  simp [placeV] at h
  exact Prod.ext (Int.ofNat.inj h.1) h.2

theorem placeKeyed : Keyed Tryd.prog 100 := Keyed.of_law (deep_law_laid laidOut (m := 2) (by omega) (of_decide_eq_true (by kernel_rfl)) (by kernel_rfl) (by kernel_rfl))

theorem keyOf_two {P : Program} {t a b : TypeId} {f0 f1 : Field} (hu : P.underlying t = some (.struct #[f0, f1])) (ha : P.underlying a = some (.int .i64)) (hb : P.underlying b = some .string) (h0 : f0.type = a) (h1 : f1.type = b) (o0 : f0.offset = 0) (o1 : f1.offset = 1) (n0 : (f0.name != "_") = true) (n1 : (f1.name != "_") = true)
    (hk : P.keyType t = true) (hc : P.cellsOf t = 2) (ca : P.cellsOf a = 1) (cb : P.cellsOf b = 1) (hp : P.types.size ≠ 0) {n : Int} {s : ByteArray} (hw : (Lit.int .i64 n).wf = true) (hs : s.size ≤ maxLen) : ∃ kl, keyOf P t (.agg #[.int .i64 n, .string s]) = some kl := by
  obtain ⟨m, hm⟩ : ∃ m, P.types.size + 1 = m + 2 := ⟨P.types.size - 1, by omega⟩
  have hl : P.keyLits (P.types.size + 1) t [.int .i64 n, .string s] = some [.int .i64 n, .string s.data.toList] := by
    rw [hm]
    simp [Program.keyLits, hu, ha, hb, hc, h0, h1, o0, o1, ca, cb, hw, hs, n0, n1]
  have hf : (Value.agg #[.int .i64 n, .string s]).formed P t = true := by simp [Value.formed, hu, hc]
  unfold keyOf
  rw [hu]
  simp only [hk, hf, Bool.and_self, if_true, Value.cells]
  rw [hl]
  exact ⟨_, rfl⟩

theorem placeKey {p : Nat × ByteArray} (h1 : p.1 < 1000) (h2 : p.2.size ≤ 100) : ∃ kl, keyOf Tryd.prog 100 (placeV p) = some kl :=
  keyOf_two Tryd.underlying100 Tryd.underlying3 Tryd.underlying9 rfl rfl rfl rfl (by decide) (by decide) (by kernel_rfl) (by kernel_rfl) (by kernel_rfl) (by kernel_rfl) (of_decide_eq_true (by kernel_rfl)) (WalkArith.wf_i64 (by omega)) (by unfold maxLen; omega)

theorem zeroEnt (w : World) : (zeroValue 112).run Tryd.prog w = .ok (entV noEnt) w := by kernel_rfl

end Go.Proofs.YtpdkojgepagbnaaDoor

namespace Go.Proofs.YtpdkojgepagbnaaDoor
set_option maxRecDepth 100000
open Go.RowKit
open Go.Maps (Keyed)
attribute [local go_sem ↓] Go.wp_at_zero Go.wp_at_succ

theorem ent_look {w : World} {bf : Nat} {l : List ((Nat × ByteArray) × Ent)} (hm : MapIs Tryd.prog 100 w bf (rawL placeV entV l)) {n : Nat} {k : ByteArray} (h1 : n < 1000) (h2 : k.size ≤ 100) :
    (Instr.lookup 141 (.map (some bf)) (.agg #[.int .i64 (n : Int), .string k]) true).run Tryd.prog w = .ok (.tuple #[entV ((aget l (n, k)).getD noEnt), .bool (aget l (n, k)).isSome]) w := by
  obtain ⟨kl, hkey⟩ := placeKey (p := (n, k)) h1 h2
  have := map_look hm placeKeyed Tryd.underlying141 placeV_inj hkey (zeroEnt w) true
  cases hg : aget l (n, k) <;> rw [hg] at this <;> simpa [placeV] using this

set_option maxHeartbeats 1000000 in
theorem At_any (be bf : Nat) (l : List ((Nat × ByteArray) × Ent)) (n : Nat) (k : ByteArray) (w : World) (hc : w.cell? ⟨be, 1, none⟩ = some (.map (some bf))) (hm : MapIs Tryd.prog 100 w bf (rawL placeV entV l)) (h1 : n < 1000) (h2 : k.size ≤ 100) :
    Calls Tryd.prog 55 #[.pointer (some ⟨be, 0, none⟩), placeV (n, k)] w fun e w' => e = .returned (.tuple #[entV ((aget l (n, k)).getD noEnt), .bool (aget l (n, k)).isSome]) ∧ Turn nothing w w' := by
  have hlook : ∀ w' : World, w'.heap[bf]? = w.heap[bf]? → (Instr.lookup 141 (.map (some bf)) (.agg #[.int .i64 (n : Int), .string k]) true).run Tryd.prog w' = .ok (.tuple #[entV ((aget l (n, k)).getD noEnt), .bool (aget l (n, k)).isSome]) w' := fun w' e => ent_look (hm.heap e) h1 h2
  generalize (aget l (n, k)).isSome = ok at *
  generalize (aget l (n, k)).getD noEnt = E at *
  obtain ⟨ver, pres, val, base, since⟩ := E
  simp only [entV] at hlook ⊢
  unfold placeV
  dsimp only
  have hbf : bf < w.heap.size := hm.lt
  clear hm
  go_enter Tryd.func55, Tryd.ntmps55
  go_wp2
  generalize hW : World.alloc _ _ = W0
  have T0 : Turn nothing w W0 := by rw [← hW]; exact (Turn.alloc _ _ _).step_alloc
  have c0 : W0.cell? ⟨be, 1, none⟩ = some (.map (some bf)) := T0.cell hc id
  have c1 : W0.cell? ⟨w.heap.size, 0, none⟩ = some (.int .i64 (n : Int)) := by rw [← hW]; simp
  have c2 : W0.cell? ⟨w.heap.size, 1, none⟩ = some (.string k) := by rw [← hW]; simp
  have c4 : W0.heap.size = w.heap.size + 2 := by rw [← hW]; simp
  have HS : ∀ w', Turn nothing W0 w' → Turn nothing W0 w' ∧ w'.cell? ⟨be, 1, none⟩ = some (.map (some bf)) ∧ w'.cell? ⟨w.heap.size, 0, none⟩ = some (.int .i64 (n : Int)) ∧ w'.cell? ⟨w.heap.size, 1, none⟩ = some (.string k) ∧ (Instr.lookup 141 (.map (some bf)) (.agg #[.int .i64 (n : Int), .string k]) true).run Tryd.prog w' = .ok (.tuple #[.agg #[.int .i64 ver, .int .i64 pres, .string val, .int .i64 base, .int .i64 since], .bool ok]) w' :=
    fun w' T => ⟨T, T.cell c0 id, T.cell c1 id, T.cell c2 id, hlook _ ((T.block _ (by omega) id).trans (T0.block _ hbf id))⟩
  go_region_held3 (fun w' => Turn nothing W0 w' ∧ w'.cell? ⟨be, 1, none⟩ = some (.map (some bf)) ∧ w'.cell? ⟨w.heap.size, 0, none⟩ = some (.int .i64 (n : Int)) ∧ w'.cell? ⟨w.heap.size, 1, none⟩ = some (.string k) ∧ (Instr.lookup 141 (.map (some bf)) (.agg #[.int .i64 (n : Int), .string k]) true).run Tryd.prog w' = .ok (.tuple #[.agg #[.int .i64 ver, .int .i64 pres, .string val, .int .i64 base, .int .i64 since], .bool ok]) w') ((go_split_ands; apply HS; all_goals (repeat (first | with_reducible assumption | with_reducible exact Turn.refl _ _ | with_reducible apply Turn.step_alloc | with_reducible apply Turn.step_drew | ((with_reducible refine Turn.step_turn (N := nothing) ?_ (by assumption) ?_); rotate_left; · exact fun _ _ h => False.elim h) | ((with_reducible refine Turn.step_set ?_ ?_); rotate_left; · first | exact Or.inr rfl | exact Or.inr (Or.inl rfl) | exact Or.inl (by simp <;> omega)) | ((with_reducible refine Turn.step_turn ?_ (Turn.grown (by assumption)) ?_); rotate_left; · exact fun _ _ h => Or.inr h) | with_reducible apply There.drew | with_reducible apply There.set | ((with_reducible refine There.turn ?_ (by assumption) ?_); rotate_left; · exact id) | assumption)))) (fail)
  all_goals subst hW
  all_goals go_wp2
  all_goals exact bodyPost_ret (v := .tuple #[.agg #[.int .i64 ver, .int .i64 pres, .string val, .int .i64 base, .int .i64 since], .bool ok]) (by simp [results, Tryd.results55, go_sem]) rfl ⟨rfl, by (repeat (first | with_reducible assumption | with_reducible exact Turn.refl _ _ | with_reducible apply Turn.step_alloc | with_reducible apply Turn.step_drew | ((with_reducible refine Turn.step_turn (N := nothing) ?_ (by assumption) ?_); rotate_left; · exact fun _ _ h => False.elim h) | ((with_reducible refine Turn.step_set ?_ ?_); rotate_left; · first | exact Or.inr rfl | exact Or.inr (Or.inl rfl) | exact Or.inl (by simp <;> omega)) | ((with_reducible refine Turn.step_turn ?_ (Turn.grown (by assumption)) ?_); rotate_left; · exact fun _ _ h => Or.inr h) | with_reducible apply There.drew | with_reducible apply There.set | ((with_reducible refine There.turn ?_ (by assumption) ?_); rotate_left; · exact id) | assumption))⟩

end Go.Proofs.YtpdkojgepagbnaaDoor

namespace Go.Proofs.YtpdkojgepagbnaaDoor
set_option maxRecDepth 100000
open Go.RowKit

def elap (drift d : Int) : Int := (d * 1000000 + (1000000 - drift) - 1) / (1000000 - drift)

theorem elap_le {drift d : Int} (h1 : 0 ≤ d) (h2 : d ≤ 1099511627776) (h3 : 0 ≤ drift) (h4 : drift ≤ 500000) : 0 ≤ elap drift d ∧ elap drift d ≤ 2199023255554 := by
  unfold elap
  constructor
  · exact Int.ediv_nonneg (by omega) (by omega)
  · have : d * 1000000 + (1000000 - drift) - 1 ≤ 2199023255554 * (1000000 - drift) := by
      have : 2199023255553 * 500000 ≤ 2199023255553 * (1000000 - drift) := Int.mul_le_mul_of_nonneg_left (by omega) (by omega)
      omega
    exact Int.ediv_le_of_le_mul (by omega) this

set_option maxHeartbeats 1000000 in
theorem Elapsed_any (d drift : Int) (w : World) (h1 : 0 ≤ d) (h2 : d ≤ 1099511627776) (h3 : 0 ≤ drift) (h4 : drift ≤ 500000) :
    Calls Tryd.prog 111 #[.int .i64 d, .int .i64 drift] w fun e w' => e = .returned (.int .i64 (elap drift d)) ∧ w' = w := by
  have h5 : 1000000 - drift ≠ 0 := by omega
  go_enter Tryd.func111, Tryd.ntmps111
  go_wp2
  go_ret
  exact ⟨by simp [elap], rfl⟩

def ageAt (drift clock : Int) (e : Ent) : Int := e.base + elap drift (clock - e.since)

/-- An entry whose numbers are of the size that they have. -/
structure Ent.Fine (e : Ent) (clock : Int) : Prop where
  b0 : 0 ≤ e.base
  b1 : e.base ≤ 4398046511104
  s0 : 0 ≤ e.since
  s1 : e.since ≤ clock
  c1 : clock ≤ 1099511627776

set_option maxHeartbeats 200000 in
theorem EntAge_any (e : Ent) (clock drift : Int) (w : World) (hf : e.Fine clock) (h3 : 0 ≤ drift) (h4 : drift ≤ 500000) :
    Calls Tryd.prog 106 #[entV e, .int .i64 clock, .int .i64 drift] w fun r w' => r = .returned (.int .i64 (ageAt drift clock e)) ∧ Turn nothing w w' := by
  obtain ⟨ver, pres, val, base, since⟩ := e
  obtain ⟨b0, b1, s0, s1, k1⟩ := hf
  dsimp only at b0 b1 s0 s1 k1
  unfold entV ageAt
  dsimp only
  have hE := elap_le (drift := drift) (d := clock - since) (by omega) (by omega) h3 h4
  have HC : ∀ w : World, Calls Tryd.prog 111 #[.int .i64 (clock - since), .int .i64 drift] w fun e w' => e = .returned (.int .i64 (elap drift (clock - since))) ∧ w' = w := fun w => Elapsed_any _ _ w (by omega) (by omega) h3 h4
  generalize elap drift (clock - since) = x at *
  have KC := hide HC
  clear HC
  have NUM := hide (And.intro b0 (And.intro b1 (And.intro s0 (And.intro s1 k1))))
  have hw1 : IntKind.i64.wrap (clock - since) = clock - since := by rw [IntKind.wrap_i64]; omega
  have hw2 : IntKind.i64.wrap (base + x) = base + x := by rw [IntKind.wrap_i64]; omega
  clear b0 b1 s0 s1 k1 hE h3 h4
  go_enter Tryd.func106, Tryd.ntmps106
  go_wp2
  generalize hW : World.alloc _ _ = W0
  have T0 : Turn nothing w W0 := by rw [← hW]; exact Turn.alloc _ _ _
  have c1 : W0.cell? ⟨w.heap.size, 3, none⟩ = some (.int .i64 base) := by rw [← hW]; simp
  have c2 : W0.cell? ⟨w.heap.size, 4, none⟩ = some (.int .i64 since) := by rw [← hW]; simp
  have HS : ∀ w', Turn nothing W0 w' → Turn nothing W0 w' ∧ w'.cell? ⟨w.heap.size, 3, none⟩ = some (.int .i64 base) ∧ w'.cell? ⟨w.heap.size, 4, none⟩ = some (.int .i64 since) :=
    fun w' T => ⟨T, T.cell c1 id, T.cell c2 id⟩
  go_region_held3 (fun w' => Turn nothing W0 w' ∧ w'.cell? ⟨w.heap.size, 3, none⟩ = some (.int .i64 base) ∧ w'.cell? ⟨w.heap.size, 4, none⟩ = some (.int .i64 since)) ((go_split_ands; apply HS; all_goals (repeat (first | with_reducible assumption | with_reducible exact Turn.refl _ _ | with_reducible apply Turn.step_alloc | with_reducible apply Turn.step_drew | ((with_reducible refine Turn.step_turn (N := nothing) ?_ (by assumption) ?_); rotate_left; · exact fun _ _ h => False.elim h) | ((with_reducible refine Turn.step_set ?_ ?_); rotate_left; · first | exact Or.inr rfl | exact Or.inr (Or.inl rfl) | exact Or.inl (by simp <;> omega)) | ((with_reducible refine Turn.step_turn ?_ (Turn.grown (by assumption)) ?_); rotate_left; · exact fun _ _ h => Or.inr h) | with_reducible apply There.drew | with_reducible apply There.set | ((with_reducible refine There.turn ?_ (by assumption) ?_); rotate_left; · exact id) | assumption)))) (first | (go_at_call 111; refine (unhide KC _).mono ?_; rintro e w' ⟨rfl, rfl⟩))
  all_goals go_wp2
  all_goals go_ret
  all_goals exact ⟨rfl, T0.step_turn (by (repeat (first | with_reducible assumption | with_reducible exact Turn.refl _ _ | with_reducible apply Turn.step_alloc | with_reducible apply Turn.step_drew | ((with_reducible refine Turn.step_turn (N := nothing) ?_ (by assumption) ?_); rotate_left; · exact fun _ _ h => False.elim h) | ((with_reducible refine Turn.step_set ?_ ?_); rotate_left; · first | exact Or.inr rfl | exact Or.inr (Or.inl rfl) | exact Or.inl (by simp <;> omega)) | ((with_reducible refine Turn.step_turn ?_ (Turn.grown (by assumption)) ?_); rotate_left; · exact fun _ _ h => Or.inr h) | with_reducible apply There.drew | with_reducible apply There.set | ((with_reducible refine There.turn ?_ (by assumption) ?_); rotate_left; · exact id) | assumption))) (fun _ _ h => h)⟩

end Go.Proofs.YtpdkojgepagbnaaDoor

namespace Go.Proofs.YtpdkojgepagbnaaDoor
set_option maxRecDepth 100000
open Go.RowKit

/-- What stands in a tier's own block. -/
structure TS where
  pv : Value
  drift : Int
  budget : Int
  ents : Int
  waits : Int
  bo : Nat
  clk : Nat → Int
  be : Nat
  bq : Nat
  serial : Int
  nv : Value
  av : Value

def TS.cells (t : TS) : Array Value := #[t.pv, .int .i64 t.drift, .int .i64 t.budget, .int .i64 t.ents, .int .i64 t.waits, .pointer (some ⟨t.bo, 0, none⟩), .int .i64 (t.clk 0), .int .i64 (t.clk 1), .int .i64 (t.clk 2), .int .i64 (t.clk 3), .int .i64 (t.clk 4), .int .i64 (t.clk 5), .pointer (some ⟨t.be, 0, none⟩), .map (some t.bq), .int .i64 t.serial, t.nv, t.av]

structure TierIs (w : World) (bt : Nat) (t : TS) : Prop where
  block : w.heap[bt]? = some (.cells t.cells 97 (0, 0))

theorem heap_lt {w : World} {b : Nat} {o : Obj} (h : w.heap[b]? = some o) : b < w.heap.size := (Array.getElem?_eq_some_iff.1 h).1

/-- n cells are there, and may be written. -/
structure There (w : World) (b n : Nat) : Prop where
  are : ∀ i, i < n → (w.cell? ⟨b, i, none⟩).isSome = true
  free : ∀ i, w.frozen? ⟨b, i, none⟩ = false
theorem There.of_cells {w : World} {b n : Nat} {cs : Array Value} {ty : TypeId} (h : w.heap[b]? = some (.cells cs ty (0, 0))) (hn : n ≤ cs.size) : There w b n :=
  ⟨fun i hi => by rw [cell_of_cells h]; simp; omega, fun i => frozen_of_cells h i⟩
theorem There.new {w : World} {b n : Nat} {cs : Array Value} {ty : TypeId} (hb : b = w.heap.size) (hn : n ≤ cs.size) : There (w.alloc (.cells cs ty)) b n := by
  subst hb
  exact There.of_cells (MapKept.heap_alloc w _).1 hn
theorem There.turn {M : Nat → Prop} {w w' : World} {b n : Nat} (h : There w b (n + 1)) (T : Turn M w w') (hm : ¬ M b) : There w' b (n + 1) := by
  have hb : b < w.heap.size := by
    have := h.are 0 (by omega)
    obtain ⟨v, hv⟩ := Option.isSome_iff_exists.1 this
    exact cell_lt hv
  have e := T.block b hb hm
  exact ⟨fun i hi => by rw [World.cell?_of_block (w := w) (w' := w') (a := ⟨b, i, none⟩) e]; exact h.are i hi, fun i => by rw [World.frozen?_of_block (w := w) (w' := w') (a := ⟨b, i, none⟩) e]; exact h.free i⟩
theorem There.set {w : World} {b n : Nat} {a : Addr} {v : Value} (h : There w b n) : There (w.setCell a v) b n := by
  refine ⟨fun i hi => ?_, fun i => ?_⟩
  · obtain ⟨u, hu⟩ := Option.isSome_iff_exists.1 (h.are i hi)
    obtain ⟨v', hv'⟩ := cell?_setCell_some (w := w) (p := a) (x := v) (q := ⟨b, i, none⟩) (v := u) hu
    rw [hv']; rfl
  · simp [h.free i]
theorem There.drew {w : World} {b n : Nat} (h : There w b n) : There w.drew b n := ⟨h.are, h.free⟩

/-- What a cell holds, where there is one. -/
def peek (w : World) (a : Addr) : Value := (w.cell? a).getD undef
theorem peek_some {w : World} {a : Addr} (h : (w.cell? a).isSome = true) : w.cell? a = some (peek w a) := by
  obtain ⟨u, hu⟩ := Option.isSome_iff_exists.1 h
  simp [peek, hu]

theorem stored_some {P : Program} {w : World} {a : Addr} {v : Value} {m : Mode} (h : (w.cell? a).isSome = true) (hf : w.frozen? a = false) : stored P w a v m = .ok () (w.setCell a v) := by
  obtain ⟨u, hu⟩ := Option.isSome_iff_exists.1 h
  simp [stored, hu, hf]

theorem TierIs.lt {w : World} {bt : Nat} {t : TS} (h : TierIs w bt t) : bt < w.heap.size := heap_lt h.block
theorem TierIs.clk {w : World} {bt : Nat} {t : TS} (h : TierIs w bt t) {n : Nat} (hn : n < 6) : w.cell? ⟨bt, 6 + n, none⟩ = some (.int .i64 (t.clk n)) := by
  rw [cell_of_cells h.block]
  match n, hn with
  | 0, _ => rfl
  | 1, _ => rfl
  | 2, _ => rfl
  | 3, _ => rfl
  | 4, _ => rfl
  | 5, _ => rfl
theorem TierIs.turn {M : Nat → Prop} {w w' : World} {bt : Nat} {t : TS} (h : TierIs w bt t) (T : Turn M w w') (hm : ¬ M bt) : TierIs w' bt t := ⟨(T.block _ h.lt hm).trans h.block⟩

/-- The numbers of a tier are of the size that they have. -/
structure TS.Fine (t : TS) : Prop where
  d0 : 0 ≤ t.drift
  d1 : t.drift ≤ 500000
  c0 : ∀ n, 0 ≤ t.clk n
  c1 : ∀ n, t.clk n ≤ 1099511627776

theorem age_le {t : TS} {n : Nat} {e : Ent} (ht : t.Fine) (he : e.Fine (t.clk n)) : 0 ≤ ageAt t.drift (t.clk n) e ∧ ageAt t.drift (t.clk n) e ≤ 6597069766658 := by
  have := elap_le (drift := t.drift) (d := t.clk n - e.since) (by have := he.s1; omega) (by have := he.s0; have := he.c1; omega) ht.d0 ht.d1
  unfold ageAt
  have := he.b0
  have := he.b1
  omega

set_option maxHeartbeats 1000000 in
theorem age_any (bt : Nat) (t : TS) (n : Nat) (e : Ent) (w : World) (hT : TierIs w bt t) (hf : t.Fine) (hn : n < 6) (he : e.Fine (t.clk n)) :
    Calls Tryd.prog 88 #[.pointer (some ⟨bt, 0, none⟩), .int .i64 (n : Int), entV e] w fun r w' => r = .returned (.int .i64 (ageAt t.drift (t.clk n) e)) ∧ Turn nothing w w' := by
  have KC := hide (fun w => EntAge_any e (t.clk n) t.drift w he hf.d0 hf.d1)
  have d1 : w.cell? ⟨bt, 1, none⟩ = some (.int .i64 t.drift) := cell_of_cells hT.block 1
  have d2 : w.cell? ⟨bt, 6 + n, none⟩ = some (.int .i64 (t.clk n)) := hT.clk hn
  generalize ageAt t.drift (t.clk n) e = x at *
  clear he
  obtain ⟨ver, pres, val, base, since⟩ := e
  unfold entV at *
  dsimp only at *
  have i0 : (0 : Int) ≤ (n : Int) := by omega
  have i1 : (n : Int) < 6 := by omega
  generalize t.clk n = c at *
  generalize t.drift = dr at *
  clear hf hT
  go_enter Tryd.func88, Tryd.ntmps88
  go_wp2
  generalize hW : World.alloc _ _ = W0
  have T0 : Turn nothing w W0 := by rw [← hW]; exact Turn.alloc _ _ _
  have c0 := T0.cell d1 id
  have c1 := T0.cell d2 id
  have e0 : W0.cell? ⟨w.heap.size, 0, none⟩ = some (.int .i64 ver) := by rw [← hW]; simp
  have e1 : W0.cell? ⟨w.heap.size, 1, none⟩ = some (.int .i64 pres) := by rw [← hW]; simp
  have e2 : W0.cell? ⟨w.heap.size, 2, none⟩ = some (.string val) := by rw [← hW]; simp
  have e3 : W0.cell? ⟨w.heap.size, 3, none⟩ = some (.int .i64 base) := by rw [← hW]; simp
  have e4 : W0.cell? ⟨w.heap.size, 4, none⟩ = some (.int .i64 since) := by rw [← hW]; simp
  clear hW d1 d2
  have HS : ∀ w', Turn nothing W0 w' → Turn nothing W0 w' ∧ w'.cell? ⟨bt, 1, none⟩ = some (.int .i64 dr) ∧ w'.cell? ⟨bt, 6 + n, none⟩ = some (.int .i64 c) ∧ w'.cell? ⟨w.heap.size, 0, none⟩ = some (.int .i64 ver) ∧ w'.cell? ⟨w.heap.size, 1, none⟩ = some (.int .i64 pres) ∧ w'.cell? ⟨w.heap.size, 2, none⟩ = some (.string val) ∧ w'.cell? ⟨w.heap.size, 3, none⟩ = some (.int .i64 base) ∧ w'.cell? ⟨w.heap.size, 4, none⟩ = some (.int .i64 since) :=
    fun w' T => ⟨T, T.cell c0 id, T.cell c1 id, T.cell e0 id, T.cell e1 id, T.cell e2 id, T.cell e3 id, T.cell e4 id⟩
  go_region_held3 (fun w' => Turn nothing W0 w' ∧ w'.cell? ⟨bt, 1, none⟩ = some (.int .i64 dr) ∧ w'.cell? ⟨bt, 6 + n, none⟩ = some (.int .i64 c) ∧ w'.cell? ⟨w.heap.size, 0, none⟩ = some (.int .i64 ver) ∧ w'.cell? ⟨w.heap.size, 1, none⟩ = some (.int .i64 pres) ∧ w'.cell? ⟨w.heap.size, 2, none⟩ = some (.string val) ∧ w'.cell? ⟨w.heap.size, 3, none⟩ = some (.int .i64 base) ∧ w'.cell? ⟨w.heap.size, 4, none⟩ = some (.int .i64 since)) ((go_split_ands; apply HS; all_goals (repeat (first | with_reducible assumption | with_reducible exact Turn.refl _ _ | with_reducible apply Turn.step_alloc | with_reducible apply Turn.step_drew | ((with_reducible refine Turn.step_turn (N := nothing) ?_ (by assumption) ?_); rotate_left; · exact fun _ _ h => False.elim h) | ((with_reducible refine Turn.step_set ?_ ?_); rotate_left; · first | exact Or.inr rfl | exact Or.inr (Or.inl rfl) | exact Or.inl (by simp <;> omega)) | ((with_reducible refine Turn.step_turn ?_ (Turn.grown (by assumption)) ?_); rotate_left; · exact fun _ _ h => Or.inr h) | with_reducible apply There.drew | with_reducible apply There.set | ((with_reducible refine There.turn ?_ (by assumption) ?_); rotate_left; · exact id) | assumption)))) (first | (go_at_call 106; refine (unhide KC _).mono ?_; rintro e w' ⟨rfl, TC⟩))
  all_goals go_wp2
  all_goals go_ret
  all_goals exact ⟨rfl, T0.step_turn (by (repeat (first | with_reducible assumption | with_reducible exact Turn.refl _ _ | with_reducible apply Turn.step_alloc | with_reducible apply Turn.step_drew | ((with_reducible refine Turn.step_turn (N := nothing) ?_ (by assumption) ?_); rotate_left; · exact fun _ _ h => False.elim h) | ((with_reducible refine Turn.step_set ?_ ?_); rotate_left; · first | exact Or.inr rfl | exact Or.inr (Or.inl rfl) | exact Or.inl (by simp <;> omega)) | ((with_reducible refine Turn.step_turn ?_ (Turn.grown (by assumption)) ?_); rotate_left; · exact fun _ _ h => Or.inr h) | with_reducible apply There.drew | with_reducible apply There.set | ((with_reducible refine There.turn ?_ (by assumption) ?_); rotate_left; · exact id) | assumption))) (fun _ _ h => h)⟩

end Go.Proofs.YtpdkojgepagbnaaDoor

namespace Go.Proofs.YtpdkojgepagbnaaDoor
set_option maxRecDepth 100000
open Go.RowKit

set_option maxHeartbeats 1000000 in
theorem isFresh_any (bt : Nat) (t : TS) (n : Nat) (e : Ent) (w : World) (hT : TierIs w bt t) (hf : t.Fine) (hn : n < 6) (he : e.Fine (t.clk n)) :
    Calls Tryd.prog 83 #[.pointer (some ⟨bt, 0, none⟩), .int .i64 (n : Int), entV e] w fun r w' => r = .returned (.bool (decide (ageAt t.drift (t.clk n) e ≤ t.budget))) ∧ Turn nothing w w' := by
  have KC := hide (fun w (hT : Hid (TierIs w bt t)) => age_any bt t n e w hT hf hn he)
  have d1 : w.cell? ⟨bt, 2, none⟩ = some (.int .i64 t.budget) := cell_of_cells hT.block 2
  generalize ageAt t.drift (t.clk n) e = x at *
  clear he
  obtain ⟨ver, pres, val, base, since⟩ := e
  unfold entV at *
  dsimp only at *
  generalize hbd : t.budget = bd at *
  have HT := hide hT
  clear hf hT hbd
  go_enter Tryd.func83, Tryd.ntmps83
  go_wp2
  generalize hW : World.alloc _ _ = W0
  have T0 : Turn nothing w W0 := by rw [← hW]; exact (Turn.alloc _ _ _)
  have hsz : W0.heap.size = w.heap.size + 1 := by rw [← hW]; simp
  have x0 : ∃ ty, W0.heap[w.heap.size]? = some (.cells #[.int .i64 ver, .int .i64 pres, .string val, .int .i64 base, .int .i64 since] ty (0, 0)) := by rw [← hW]; exact ⟨_, new1_0 _ _⟩
  have x0_0 : W0.cell? ⟨w.heap.size, 0, none⟩ = some (.int .i64 ver) := by obtain ⟨_, h⟩ := x0; exact cell_of_cells h 0
  have x0_1 : W0.cell? ⟨w.heap.size, 1, none⟩ = some (.int .i64 pres) := by obtain ⟨_, h⟩ := x0; exact cell_of_cells h 1
  have x0_2 : W0.cell? ⟨w.heap.size, 2, none⟩ = some (.string val) := by obtain ⟨_, h⟩ := x0; exact cell_of_cells h 2
  have x0_3 : W0.cell? ⟨w.heap.size, 3, none⟩ = some (.int .i64 base) := by obtain ⟨_, h⟩ := x0; exact cell_of_cells h 3
  have x0_4 : W0.cell? ⟨w.heap.size, 4, none⟩ = some (.int .i64 since) := by obtain ⟨_, h⟩ := x0; exact cell_of_cells h 4
  have HT0 := hide ((unhide HT).turn T0 id)
  have c0 := T0.cell d1 id
  clear hW d1
  have HS : ∀ w', Turn nothing W0 w' → Turn nothing W0 w' ∧ w'.cell? ⟨bt, 2, none⟩ = some (.int .i64 bd) ∧ w'.cell? ⟨w.heap.size, 0, none⟩ = some (.int .i64 ver) ∧ w'.cell? ⟨w.heap.size, 1, none⟩ = some (.int .i64 pres) ∧ w'.cell? ⟨w.heap.size, 2, none⟩ = some (.string val) ∧ w'.cell? ⟨w.heap.size, 3, none⟩ = some (.int .i64 base) ∧ w'.cell? ⟨w.heap.size, 4, none⟩ = some (.int .i64 since) ∧ (Hid (TierIs w' bt t)) := fun w' T => ⟨T, T.cell c0 id, T.cell x0_0 id, T.cell x0_1 id, T.cell x0_2 id, T.cell x0_3 id, T.cell x0_4 id, ((unhide HT0).turn T id)⟩
  go_region_held3 (fun w' => Turn nothing W0 w' ∧ w'.cell? ⟨bt, 2, none⟩ = some (.int .i64 bd) ∧ w'.cell? ⟨w.heap.size, 0, none⟩ = some (.int .i64 ver) ∧ w'.cell? ⟨w.heap.size, 1, none⟩ = some (.int .i64 pres) ∧ w'.cell? ⟨w.heap.size, 2, none⟩ = some (.string val) ∧ w'.cell? ⟨w.heap.size, 3, none⟩ = some (.int .i64 base) ∧ w'.cell? ⟨w.heap.size, 4, none⟩ = some (.int .i64 since) ∧ (Hid (TierIs w' bt t))) ((go_split_ands; apply HS; all_goals (repeat (first | with_reducible assumption | with_reducible exact Turn.refl _ _ | with_reducible apply Turn.step_alloc | with_reducible apply Turn.step_drew | ((with_reducible refine Turn.step_turn (N := nothing) ?_ (by assumption) ?_); rotate_left; · exact fun _ _ h => False.elim h) | ((with_reducible refine Turn.step_set ?_ ?_); rotate_left; · first | exact Or.inr rfl | exact Or.inr (Or.inl rfl) | exact Or.inl (by simp <;> omega)) | ((with_reducible refine Turn.step_turn ?_ (Turn.grown (by assumption)) ?_); rotate_left; · exact fun _ _ h => Or.inr h) | with_reducible apply There.drew | with_reducible apply There.set | ((with_reducible refine There.turn ?_ (by assumption) ?_); rotate_left; · exact id) | assumption)))) (first | (go_at_call 88; go_split_ands; refine (unhide KC _ (by assumption)).mono ?_; rintro e w' ⟨rfl, TC⟩))
  all_goals go_wp2
  all_goals go_ret
  all_goals exact ⟨rfl, T0.step_turn (by (repeat (first | with_reducible assumption | with_reducible exact Turn.refl _ _ | with_reducible apply Turn.step_alloc | with_reducible apply Turn.step_drew | ((with_reducible refine Turn.step_turn (N := nothing) ?_ (by assumption) ?_); rotate_left; · exact fun _ _ h => False.elim h) | ((with_reducible refine Turn.step_set ?_ ?_); rotate_left; · first | exact Or.inr rfl | exact Or.inr (Or.inl rfl) | exact Or.inl (by simp <;> omega)) | ((with_reducible refine Turn.step_turn ?_ (Turn.grown (by assumption)) ?_); rotate_left; · exact fun _ _ h => Or.inr h) | with_reducible apply There.drew | with_reducible apply There.set | ((with_reducible refine There.turn ?_ (by assumption) ?_); rotate_left; · exact id) | assumption))) (fun _ _ h => h)⟩

set_option maxHeartbeats 1000000 in
theorem elapsed_any (bt : Nat) (t : TS) (n : Nat) (s : Int) (w : World) (hT : TierIs w bt t) (hf : t.Fine) (hn : n < 6) (h0 : 0 ≤ s) (h1 : s ≤ t.clk n) :
    Calls Tryd.prog 108 #[.pointer (some ⟨bt, 0, none⟩), .int .i64 (n : Int), .int .i64 s] w fun r w' => r = .returned (.int .i64 (elap t.drift (t.clk n - s))) ∧ Turn nothing w w' := by
  have hc1 := hf.c1 n
  have KC := hide (fun w => Elapsed_any (t.clk n - s) t.drift w (by omega) (by omega) hf.d0 hf.d1)
  have hw : IntKind.i64.wrap (t.clk n - s) = t.clk n - s := by rw [IntKind.wrap_i64]; omega
  have d1 : w.cell? ⟨bt, 1, none⟩ = some (.int .i64 t.drift) := cell_of_cells hT.block 1
  have d2 : w.cell? ⟨bt, 6 + n, none⟩ = some (.int .i64 (t.clk n)) := hT.clk hn
  have i0 : (0 : Int) ≤ (n : Int) := by omega
  have i1 : (n : Int) < 6 := by omega
  generalize elap t.drift (t.clk n - s) = x at *
  clear h0 h1 hc1 hf hT
  generalize t.clk n = c at *
  generalize t.drift = dr at *
  go_enter Tryd.func108, Tryd.ntmps108
  go_wp2
  have HS : ∀ w', Turn nothing w w' → Turn nothing w w' ∧ w'.cell? ⟨bt, 1, none⟩ = some (.int .i64 dr) ∧ w'.cell? ⟨bt, 6 + n, none⟩ = some (.int .i64 c) := fun w' T => ⟨T, T.cell d1 id, T.cell d2 id⟩
  go_region_held3 (fun w' => Turn nothing w w' ∧ w'.cell? ⟨bt, 1, none⟩ = some (.int .i64 dr) ∧ w'.cell? ⟨bt, 6 + n, none⟩ = some (.int .i64 c)) ((go_split_ands; apply HS; all_goals (repeat (first | with_reducible assumption | with_reducible exact Turn.refl _ _ | with_reducible apply Turn.step_alloc | with_reducible apply Turn.step_drew | ((with_reducible refine Turn.step_turn (N := nothing) ?_ (by assumption) ?_); rotate_left; · exact fun _ _ h => False.elim h) | ((with_reducible refine Turn.step_set ?_ ?_); rotate_left; · first | exact Or.inr rfl | exact Or.inr (Or.inl rfl) | exact Or.inl (by simp <;> omega)) | ((with_reducible refine Turn.step_turn ?_ (Turn.grown (by assumption)) ?_); rotate_left; · exact fun _ _ h => Or.inr h) | with_reducible apply There.drew | with_reducible apply There.set | ((with_reducible refine There.turn ?_ (by assumption) ?_); rotate_left; · exact id) | assumption)))) (first | (go_at_call 111; refine (unhide KC _).mono ?_; rintro e w' ⟨rfl, rfl⟩))
  all_goals go_wp2
  all_goals go_ret
  all_goals exact ⟨rfl, by (repeat (first | with_reducible assumption | with_reducible exact Turn.refl _ _ | with_reducible apply Turn.step_alloc | with_reducible apply Turn.step_drew | ((with_reducible refine Turn.step_turn (N := nothing) ?_ (by assumption) ?_); rotate_left; · exact fun _ _ h => False.elim h) | ((with_reducible refine Turn.step_set ?_ ?_); rotate_left; · first | exact Or.inr rfl | exact Or.inr (Or.inl rfl) | exact Or.inl (by simp <;> omega)) | ((with_reducible refine Turn.step_turn ?_ (Turn.grown (by assumption)) ?_); rotate_left; · exact fun _ _ h => Or.inr h) | with_reducible apply There.drew | with_reducible apply There.set | ((with_reducible refine There.turn ?_ (by assumption) ?_); rotate_left; · exact id) | assumption))⟩

end Go.Proofs.YtpdkojgepagbnaaDoor
