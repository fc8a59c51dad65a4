/-
  All who wait for a fetch are refused.
  Which version a cache has.
  A new fetch is sent.
  A new fetch: for one who begins to wait; or in the place of another, for the same who wait.
-/
import Derived.Test.YtpdkojgepagbnaaDoorJ07
namespace Go.Proofs.YtpdkojgepagbnaaDoor
set_option maxRecDepth 100000
open Go.RowKit
open Tier (Mes Ans Conf)
attribute [local go_sem ↓] Go.wp_at_zero Go.wp_at_succ

def PS.refuseL (s : PS) (n : Nat) (k : ByteArray) (l : List Wt) : PS := l.foldl (fun s x => s.refuse n k x) s
theorem PS.refuse_net (s : PS) (n : Nat) (k : ByteArray) (x : Wt) : (s.refuse n k x).net.length ≤ s.net.length + 1 ∧ (s.refuse n k x).answers.length ≤ s.answers.length + 1 := by
  unfold PS.refuse; split <;> simp
theorem PS.refuseL_net (n : Nat) (k : ByteArray) : ∀ (l : List Wt) (s : PS), (s.refuseL n k l).net.length ≤ s.net.length + l.length ∧ (s.refuseL n k l).answers.length ≤ s.answers.length + l.length
  | [], s => by simp [PS.refuseL]
  | x :: r, s => by
    have h1 := PS.refuse_net s n k x
    have h2 := PS.refuseL_net n k r (s.refuse n k x)
    simp only [PS.refuseL, List.foldl_cons, List.length_cons] at *
    omega
theorem PS.refuseL_snoc (s : PS) (n : Nat) (k : ByteArray) (l : List Wt) (i : Nat) (x : Wt) (h : l[i]? = some x) : s.refuseL n k (l.take (i + 1)) = (s.refuseL n k (l.take i)).refuse n k x := by
  rw [List.take_add_one, h]
  simp [PS.refuseL]

theorem flatten_get {α : Type} {m : Nat} : ∀ (l : List (List α)) (i j : Nat) (x : List α), (∀ y ∈ l, y.length = m) → l[i]? = some x → j < m → l.flatten[i * m + j]? = x[j]?
  | [], i, j, x, _, h, _ => by simp at h
  | y :: r, 0, j, x, hl, h, hj => by
    simp at h
    subst h
    rw [List.flatten_cons, List.getElem?_append_left (by rw [hl y (by simp)]; omega)]
    simp
  | y :: r, i + 1, j, x, hl, h, hj => by
    have hy := hl y (by simp)
    rw [List.flatten_cons, List.getElem?_append_right (by rw [hy, Nat.succ_mul]; omega)]
    have := flatten_get r i j x (fun z hz => hl z (by simp [hz])) (by simpa using h) hj
    rw [← this, hy]
    congr 1
    rw [Nat.succ_mul]; omega

/-- Who waits at place i of a loose slice. -/
theorem Loose.cells {own : Own} {w : World} {a : Option Addr} {n c : Nat} {l : List Wt} (h : Loose own w 105 4 (.slice a n c) (l.map wtL)) {i : Nat} {x : Wt} (hi : l[i]? = some x) :
    ∃ b, a = some ⟨b, 0, none⟩ ∧ b < w.heap.size ∧ own b = none ∧ w.cell? ⟨b, i * 4, none⟩ = some (.int .i64 x.child) ∧ w.cell? ⟨b, i * 4 + 1, none⟩ = some (.int .i64 x.serial) ∧ w.cell? ⟨b, i * 4 + 2, none⟩ = some (.int .i64 x.tag) ∧ w.cell? ⟨b, i * 4 + 3, none⟩ = some (.int .i64 x.id) := by
  have hlen : i < l.length := (List.getElem?_eq_some_iff.1 hi).1
  have hr := h.row
  have hr' := hr
  obtain ⟨hl, ⟨hv, h0⟩ | ⟨b, cap, cur, hv, _⟩⟩ := hr
  · simp at h0; subst h0; simp at hlen
  · cases hv
    have hc := fun j (hj : j < 4) => hr'.cellAt (i * 4 + j) (by simp; omega)
    have hfl := fun j (hj : j < 4) => flatten_get (l.map wtL) i j (wtL x) (m := 4) (by intro y hy; obtain ⟨z, _, rfl⟩ := List.mem_map.1 hy; rfl) (by simp [hi]) hj
    refine ⟨b, rfl, (hr'.lt b rfl).2, h.free b rfl, ?_, ?_, ?_, ?_⟩
    · have := hc 0 (by omega); rw [hfl 0 (by omega)] at this; exact this
    · rw [hc 1 (by omega), hfl 1 (by omega)]; rfl
    · rw [hc 2 (by omega), hfl 2 (by omega)]; rfl
    · rw [hc 3 (by omega), hfl 3 (by omega)]; rfl

theorem Loose.len {own : Own} {w : World} {e size : Nat} {a : Option Addr} {n c : Nat} {l : List (List Value)} (h : Loose own w e size (.slice a n c) l) : n = l.length := by
  obtain ⟨_, ⟨hv, h0⟩ | ⟨b, cap, cur, hv, _⟩⟩ := h.row
  · cases hv; exact h0.symm
  · cases hv; rfl

set_option maxHeartbeats 4000000 in
theorem refuseAll_any (own : Own) (τ bt : Nat) (g : Gh) (s : PS) (n : Nat) (k : ByteArray) (f : Ft) (w : World) (h : Lies own τ w bt g s) (hap : s.fts.Pairwise (fun p q => p.2.serial ≠ q.2.serial)) (hpos : ∀ p ∈ s.fts, 0 < p.2.serial) (hf : aget s.fts (n, k) = some f) (h1 : n < 1000) (h2 : k.size ≤ 100)
    (hl1 : s.net.length + f.l.length < 1000000000000) (hl2 : s.answers.length + f.l.length < 1000000000000) :
    Calls Tryd.prog 57 #[.pointer (some ⟨bt, 0, none⟩), placeV (n, k)] w fun r w' => r = .returned (.tuple #[]) ∧ ∃ own' g', Lies own' τ w' bt g' (({ s with fts := adel s.fts (n, k) } : PS).refuseL n k f.l) ∧ Step τ own own' w w' ∧ g.Like g' := by
  obtain ⟨fa, fc, hfv⟩ := row_form (h.waits _ (aget_mem hf)).row
  have hfl : (f.l.map wtL).length = f.l.length := by simp
  dsimp only at hfv
  rw [hfl] at hfv
  have KE := hide (fun w h => end_any own τ bt g s n k f w h hap hpos hf h1 h2)
  rw [hfv] at KE
  have HH := hide h
  have hln : Hid (s.net.length + f.l.length < 1000000000000 ∧ s.answers.length + f.l.length < 1000000000000) := ⟨hl1, hl2⟩
  have hfl9 : f.l.length < 1000000000000 := by omega
  generalize hs1 : ({ s with fts := adel s.fts (n, k) } : PS) = s1 at *
  have hln1 : Hid (s1.net.length + f.l.length < 1000000000000 ∧ s1.answers.length + f.l.length < 1000000000000) := by rw [← hs1]; exact hln
  clear h hap hpos hf hfv hfl hl1 hl2 hs1 hln
  generalize f.l = L at *
  unfold placeV at *
  dsimp only at *
  go_enter Tryd.func57, Tryd.ntmps57
  go_wp2_with fail
  generalize hW : World.alloc _ _ = W0
  have T0 : Turn nothing w W0 := by rw [← hW]; exact Turn.alloc _ _ _
  have hb0 : W0.heap[w.heap.size]? = some (.cells #[.int .i64 (n : Int), .string k] 100 (0, 0)) := by rw [← hW]; exact new1_0 _ _
  have hsz : W0.heap.size = w.heap.size + 1 := by rw [← hW]; simp
  have hno : own w.heap.size = none := (unhide HH).top _ (Nat.le_refl _)
  refine (unhide KE W0 ((unhide HH).turn T0)).mono ?_
  rintro e w1 ⟨rfl, own1, L1, S1, R1⟩
  clear hW
  have x0 : w1.cell? ⟨w.heap.size, 0, none⟩ = some (.int .i64 (n : Int)) := S1.cell (cell_of_cells hb0 0) hno
  have x1 : w1.cell? ⟨w.heap.size, 1, none⟩ = some (.string k) := S1.cell (cell_of_cells hb0 1) hno
  have hno1 : own1 w.heap.size = none := S1.free (by omega) hno
  have HR1 := hide (And.intro L1 (And.intro ((Step.of_turn T0).trans S1) (And.intro R1 hno1)))
  clear L1 S1 R1 hno1 hno hb0 KE
  go_wp2
  go_loopw [10] (fun i wr => ∃ (j : Nat) (own' : Own) (g' : Gh), j ≤ L.length ∧ i = .int .i64 (j : Int) ∧ wr.cell? ⟨w.heap.size, 0, none⟩ = some (.int .i64 (n : Int)) ∧ wr.cell? ⟨w.heap.size, 1, none⟩ = some (.string k) ∧
    Hid (Lies own' τ wr bt g' (s1.refuseL n k (L.take j)) ∧ Step τ own own' w wr ∧ Loose own' wr 105 4 (.slice fa L.length fc) (L.map wtL) ∧ own' w.heap.size = none ∧ g.Like g')) (fun i _ => L.length - (intOf i).toNat)
  case atStart => exact ⟨0, own1, g, Nat.zero_le _, by simp, x0, x1, by have h := unhide HR1; exact ⟨by simpa [PS.refuseL] using h.1, h.2.1, h.2.2.1, h.2.2.2, Gh.Like.refl g⟩⟩
  case round =>
    obtain ⟨j, own', g', hj, rfl, y0, y1, HR⟩ := hrel
    by_cases hlt : j < L.length
    · obtain ⟨x, hx⟩ : ∃ x, L[j]? = some x := ⟨_, List.getElem?_eq_getElem hlt⟩
      obtain ⟨b, rfl, hb, hbo, c0, c1, c2, c3⟩ := (unhide HR).2.2.1.cells hx
      have j0 : (0 : Int) ≤ (j : Int) := by omega
      have j1 : (j : Int) < (L.length : Int) := by omega
      have hbs : w.heap.size < wr.heap.size := cell_lt y0
      go_wp2_with fail
      have TA : Turn nothing wr (wr.alloc (.cells #[.int .i64 x.child, .int .i64 x.serial, .int .i64 x.tag, .int .i64 x.id] 105)) := Turn.alloc _ _ _
      have hl := PS.refuseL_net n k (L.take j) s1
      have hlt' : (L.take j).length = j := by simp; omega
      have hq := unhide hln1
      refine (refuse_any own' τ bt g' (s1.refuseL n k (L.take j)) n k x _ ((unhide HR).1.turn TA) (by omega) (by omega)).mono ?_
      rintro e w2 ⟨rfl, own2, g2, L2, S2, GL2⟩
      clear hl hlt' hq
      have SA := (Step.of_turn (τ := τ) (own := own') TA).trans S2
      have z0 := SA.cell y0 (unhide HR).2.2.2.1
      have z1 := SA.cell y1 (unhide HR).2.2.2.1
      have hno2 : own2 w.heap.size = none := SA.free (cell_lt y0) (unhide HR).2.2.2.1
      have HR2 : Hid (Lies own2 τ w2 bt g2 (s1.refuseL n k (L.take (j + 1))) ∧ Step τ own own2 w w2 ∧ Loose own2 w2 105 4 (.slice (some ⟨b, 0, none⟩) L.length fc) (L.map wtL) ∧ own2 w.heap.size = none ∧ g.Like g2) := by
        refine ⟨?_, (unhide HR).2.1.trans SA, (unhide HR).2.2.1.step SA, hno2, (unhide HR).2.2.2.2.trans GL2⟩
        rw [PS.refuseL_snoc s1 n k L j x hx]; exact L2
      clear L2 S2 SA TA HR hno2 GL2 HR1 y0 y1 c0 c1 c2 c3
      go_wp2
      go_roundw
      case rel => exact ⟨j + 1, own2, g2, by omega, by go_num, z0, z1, HR2⟩
      case measure => simp [intOf]; omega
    · go_wp2
      go_end0
      have e : j = L.length := by omega
      subst e
      rw [List.take_length] at HR
      exact ⟨rfl, own', g', (unhide HR).1, (unhide HR).2.1, (unhide HR).2.2.2.2⟩

end Go.Proofs.YtpdkojgepagbnaaDoor

namespace Go.Proofs.YtpdkojgepagbnaaDoor
set_option maxRecDepth 100000
open Go.RowKit
open Tier (Mes Ans Conf)
attribute [local go_sem ↓] Go.wp_at_zero Go.wp_at_succ

def PS.entry (s : PS) (n : Nat) (k : ByteArray) : Option Ent := aget s.found (n, k)
def PS.tag (s : PS) (n : Nat) (k : ByteArray) : Int := match s.entry n k with | some e => e.ver | none => -1

theorem there_new {X w' : World} {cs : Array Value} {ty : TypeId} {n b : Nat} (T : Turn nothing (X.alloc (.cells cs ty)).drew w') (hb : X.heap.size = b) (hn : n + 1 ≤ cs.size) : There w' b (n + 1) := by
  subst hb
  exact ((There.new rfl hn).drew).turn T id

theorem At_lies {own : Own} {τ bt : Nat} {g : Gh} {s : PS} (n : Nat) (k : ByteArray) (w : World) (h : Lies own τ w bt g s) (h1 : n < 1000) (h2 : k.size ≤ 100) :
    Calls Tryd.prog 55 #[.pointer (some ⟨g.be, 0, none⟩), placeV (n, k)] w fun e w' => e = .returned (.tuple #[entV ((s.entry n k).getD noEnt), .bool (s.entry n k).isSome]) ∧ Turn nothing w w' :=
  At_any g.be g.bf s.found n k w (cell_of_cells h.ents 1) h.found h1 h2

set_option maxHeartbeats 2000000 in
theorem tag_any (own : Own) (τ bt : Nat) (g : Gh) (s : PS) (n : Nat) (k : ByteArray) (w : World) (h : Lies own τ w bt g s) (h1 : n < 1000) (h2 : k.size ≤ 100) :
    Calls Tryd.prog 104 #[.pointer (some ⟨bt, 0, none⟩), placeV (n, k)] w fun r w' => r = .returned (.int .i64 (s.tag n k)) ∧ Turn nothing w w' := by
  have HH := hide h
  have d12 : w.cell? ⟨bt, 12, none⟩ = some (.pointer (some ⟨g.be, 0, none⟩)) := cell_of_cells h.tier.block 12
  have KA := hide (fun w (h : Hid (Lies own τ w bt g s)) => At_lies n k w h h1 h2)
  clear h
  unfold PS.tag
  cases hg : s.entry n k with
  | none =>
    rw [hg] at KA
    simp only [entV, placeV, noEnt, Option.getD, Option.isSome] at KA ⊢
    go_enter Tryd.func104, Tryd.ntmps104
    go_wp2
    generalize hW : World.alloc _ _ = W0
    have T0 : Turn nothing w W0 := by rw [← hW]; exact (Turn.alloc _ _ _)
    have hsz : W0.heap.size = w.heap.size + 1 := by rw [← hW]; simp
    have x0 : ∃ ty, W0.heap[w.heap.size]? = some (.cells #[.int .i64 (n : Int), .string k] ty (0, 0)) := by rw [← hW]; exact ⟨_, new1_0 _ _⟩
    have x0_0 : W0.cell? ⟨w.heap.size, 0, none⟩ = some (.int .i64 (n : Int)) := by obtain ⟨_, h⟩ := x0; exact cell_of_cells h 0
    have x0_1 : W0.cell? ⟨w.heap.size, 1, none⟩ = some (.string k) := by obtain ⟨_, h⟩ := x0; exact cell_of_cells h 1
    have c12 := T0.cell d12 id
    have HL := hide ((unhide HH).turn T0)
    clear hW d12
    have HS : ∀ w', Turn nothing W0 w' → Turn nothing W0 w' ∧ w'.cell? ⟨bt, 12, none⟩ = some (.pointer (some ⟨g.be, 0, none⟩)) ∧ w'.cell? ⟨w.heap.size, 0, none⟩ = some (.int .i64 (n : Int)) ∧ w'.cell? ⟨w.heap.size, 1, none⟩ = some (.string k) ∧ (Hid (Lies own τ w' bt g s)) := fun w' T => ⟨T, T.cell c12 id, T.cell x0_0 id, T.cell x0_1 id, ((unhide HL).turn T)⟩
    go_region_held3 (fun w' => Turn nothing W0 w' ∧ w'.cell? ⟨bt, 12, none⟩ = some (.pointer (some ⟨g.be, 0, none⟩)) ∧ w'.cell? ⟨w.heap.size, 0, none⟩ = some (.int .i64 (n : Int)) ∧ w'.cell? ⟨w.heap.size, 1, none⟩ = some (.string k) ∧ (Hid (Lies own τ w' bt g s))) ((go_split_ands; apply HS; all_goals (repeat (first | with_reducible assumption | with_reducible exact Turn.refl _ _ | with_reducible apply Turn.step_alloc | with_reducible apply Turn.step_drew | ((with_reducible refine Turn.step_turn (N := nothing) ?_ (by assumption) ?_); rotate_left; · exact fun _ _ h => False.elim h) | ((with_reducible refine Turn.step_set ?_ ?_); rotate_left; · first | exact Or.inr rfl | exact Or.inr (Or.inl rfl) | exact Or.inl (by simp <;> omega)) | ((with_reducible refine Turn.step_turn ?_ (Turn.grown (by assumption)) ?_); rotate_left; · exact fun _ _ h => Or.inr h) | with_reducible apply There.drew | with_reducible apply There.set | ((with_reducible refine There.turn ?_ (by assumption) ?_); rotate_left; · exact id) | assumption)))) (first | (go_at_call 55; go_split_ands; refine (unhide KA _ (by assumption)).mono ?_; rintro e w' ⟨rfl, TC⟩; (try (have TH := there_new (n := 4) TC hsz (by simp); have q0 := peek_some (TH.are 0 (by omega)); have q1 := peek_some (TH.are 1 (by omega)); have q2 := peek_some (TH.are 2 (by omega)); have q3 := peek_some (TH.are 3 (by omega)); have q4 := peek_some (TH.are 4 (by omega)); have r0 := TH.free 0; have r1 := TH.free 1; have r2 := TH.free 2; have r3 := TH.free 3; have r4 := TH.free 4))))
    all_goals go_split_ands
    all_goals clear HS
    all_goals go_wp2
    all_goals go_ret
    all_goals exact ⟨rfl, T0.step_turn (by assumption) (fun _ _ h => h)⟩
  | some e =>
    obtain ⟨ver, pres, val, base, since⟩ := e
    rw [hg] at KA
    simp only [entV, placeV, Option.getD, Option.isSome] at KA ⊢
    go_enter Tryd.func104, Tryd.ntmps104
    go_wp2
    generalize hW : World.alloc _ _ = W0
    have T0 : Turn nothing w W0 := by rw [← hW]; exact (Turn.alloc _ _ _)
    have hsz : W0.heap.size = w.heap.size + 1 := by rw [← hW]; simp
    have x0 : ∃ ty, W0.heap[w.heap.size]? = some (.cells #[.int .i64 (n : Int), .string k] ty (0, 0)) := by rw [← hW]; exact ⟨_, new1_0 _ _⟩
    have x0_0 : W0.cell? ⟨w.heap.size, 0, none⟩ = some (.int .i64 (n : Int)) := by obtain ⟨_, h⟩ := x0; exact cell_of_cells h 0
    have x0_1 : W0.cell? ⟨w.heap.size, 1, none⟩ = some (.string k) := by obtain ⟨_, h⟩ := x0; exact cell_of_cells h 1
    have c12 := T0.cell d12 id
    have HL := hide ((unhide HH).turn T0)
    clear hW d12
    have HS : ∀ w', Turn nothing W0 w' → Turn nothing W0 w' ∧ w'.cell? ⟨bt, 12, none⟩ = some (.pointer (some ⟨g.be, 0, none⟩)) ∧ w'.cell? ⟨w.heap.size, 0, none⟩ = some (.int .i64 (n : Int)) ∧ w'.cell? ⟨w.heap.size, 1, none⟩ = some (.string k) ∧ (Hid (Lies own τ w' bt g s)) := fun w' T => ⟨T, T.cell c12 id, T.cell x0_0 id, T.cell x0_1 id, ((unhide HL).turn T)⟩
    go_region_held3 (fun w' => Turn nothing W0 w' ∧ w'.cell? ⟨bt, 12, none⟩ = some (.pointer (some ⟨g.be, 0, none⟩)) ∧ w'.cell? ⟨w.heap.size, 0, none⟩ = some (.int .i64 (n : Int)) ∧ w'.cell? ⟨w.heap.size, 1, none⟩ = some (.string k) ∧ (Hid (Lies own τ w' bt g s))) ((go_split_ands; apply HS; all_goals (repeat (first | with_reducible assumption | with_reducible exact Turn.refl _ _ | with_reducible apply Turn.step_alloc | with_reducible apply Turn.step_drew | ((with_reducible refine Turn.step_turn (N := nothing) ?_ (by assumption) ?_); rotate_left; · exact fun _ _ h => False.elim h) | ((with_reducible refine Turn.step_set ?_ ?_); rotate_left; · first | exact Or.inr rfl | exact Or.inr (Or.inl rfl) | exact Or.inl (by simp <;> omega)) | ((with_reducible refine Turn.step_turn ?_ (Turn.grown (by assumption)) ?_); rotate_left; · exact fun _ _ h => Or.inr h) | with_reducible apply There.drew | with_reducible apply There.set | ((with_reducible refine There.turn ?_ (by assumption) ?_); rotate_left; · exact id) | assumption)))) (first | (go_at_call 55; go_split_ands; refine (unhide KA _ (by assumption)).mono ?_; rintro e w' ⟨rfl, TC⟩; (try (have TH := there_new (n := 4) TC hsz (by simp); have q0 := peek_some (TH.are 0 (by omega)); have q1 := peek_some (TH.are 1 (by omega)); have q2 := peek_some (TH.are 2 (by omega)); have q3 := peek_some (TH.are 3 (by omega)); have q4 := peek_some (TH.are 4 (by omega)); have r0 := TH.free 0; have r1 := TH.free 1; have r2 := TH.free 2; have r3 := TH.free 3; have r4 := TH.free 4))))
    all_goals go_split_ands
    all_goals clear HS
    all_goals go_wp2
    all_goals go_ret
    all_goals exact ⟨rfl, T0.step_turn (by assumption) (fun _ _ h => h)⟩

end Go.Proofs.YtpdkojgepagbnaaDoor

namespace Go.Proofs.YtpdkojgepagbnaaDoor
set_option maxRecDepth 100000
open Go.RowKit
open Tier (Mes Ans Conf)
attribute [local go_sem ↓] Go.wp_at_zero Go.wp_at_succ

def PS.fetch (s : PS) (n : Nat) (k : ByteArray) (tg : Int) (l : List Wt) (v : Value) : PS :=
  { s with serial := s.serial + 1, fts := aput s.fts (n, k) ⟨s.serial + 1, s.clk n, l, v⟩, net := s.net ++ [⟨1, n, s.c.parents.getD n 0, k, s.serial + 1, tg, 0, 0, none8⟩] }

/-- A parent's number. -/
theorem Lies.parent {own : Own} {τ : Nat} {w : World} {bt : Nat} {g : Gh} {s : PS} (h : Lies own τ w bt g s) {n : Nat} (hn : n < s.c.parents.length) :
    ∃ b c, g.pv = .slice (some ⟨b, 0, none⟩) s.c.parents.length c ∧ own b = some (τ, 2) ∧ b < w.heap.size ∧ w.cell? ⟨b, n, none⟩ = some (.int .i64 (s.c.parents.getD n 0)) := by
  have hr := h.pars.row
  have hm := h.pars.mine
  have hlt := hr.lt
  rw [List.length_map] at hr
  have hr' := hr
  obtain ⟨hl, ⟨hv, h0⟩ | ⟨b, cap, cur, hv, _⟩⟩ := hr
  · omega
  · rw [hv] at hr'
    refine ⟨b, cap, hv, hm b (by rw [hv]; rfl), (hlt b (by rw [hv]; rfl)).2, ?_⟩
    rw [hr'.cellAt n (by omega)]
    have := flatten_get (m := 1) (s.c.parents.map fun n => [Value.int .i64 n]) n 0 [.int .i64 (s.c.parents.getD n 0)] (by intro y hy; obtain ⟨z, _, rfl⟩ := List.mem_map.1 hy; rfl) (by simp [List.getD_eq_getElem?_getD, hn]) (by omega)
    simpa using this

set_option maxHeartbeats 4000000 in
theorem fetch_walk (own own' : Own) (τ bt : Nat) (g : Gh) (s : PS) (n : Nat) (k : ByteArray) (tg : Int) (l : List Wt) (va : Option Addr) (vn vc : Nat) (w : World) (h : Lies own τ w bt g s) (hn : n < 6) (hk : k.size ≤ 100) (hser : 0 ≤ s.serial ∧ s.serial < 1000000000000) (hroom : s.fts.length ≤ 1000000000000) (hlen : s.net.length < 1000000000000) (hpar : n < s.c.parents.length)
    (HF : ∀ w2, MapIs Tryd.prog 100 w2 g.bq (rawL placeV ftV (aput s.fts (n, k) ⟨s.serial + 1, s.clk n, l, .slice va vn vc⟩)) → w2.heap[bt]? = some (.cells ({ s.ts g with serial := s.serial + 1 } : TS).cells 97 (0, 0)) →
      Turn (fun k' => k' = bt ∨ k' = g.bq) w w2 → Lies own' τ w2 bt g { s with serial := s.serial + 1, fts := aput s.fts (n, k) ⟨s.serial + 1, s.clk n, l, .slice va vn vc⟩ })
    (HO : ∀ k', k' < w.heap.size → own' k' = own k' ∨ (Mine own τ k' ∧ (own' k' = none ∨ Mine own' τ k'))) (HT : ∀ k', w.heap.size ≤ k' → own' k' = none) :
    Calls Tryd.prog 103 #[.pointer (some ⟨bt, 0, none⟩), placeV (n, k), .int .i64 tg, .slice va vn vc] w fun r w' => r = .returned (.tuple #[]) ∧ ∃ own2 g2, Lies own2 τ w' bt g2 (s.fetch n k tg l (.slice va vn vc)) ∧ Step τ own own2 w w' ∧ g.Like g2 := by
  have HH := hide h
  have KF := hide (And.intro HF HO)
  have hno2 : own' w.heap.size = none := HT _ (Nat.le_refl _)
  have hbt : bt < w.heap.size := h.tier.lt
  have hbq : g.bq < w.heap.size := h.fts.lt
  have hne : g.bq ≠ bt := fun e => by have := h.ftsO; rw [e, h.tierO] at this; cases this
  have hw1 : IntKind.i64.wrap (s.serial + 1) = s.serial + 1 := by rw [IntKind.wrap_i64]; omega
  have HNUM := hide (And.intro hser (And.intro hroom (And.intro hlen hpar)))
  have i0 : (0 : Int) ≤ (n : Int) := by omega
  have i1 : (n : Int) < 6 := by omega
  have d14 : w.cell? ⟨bt, 14, none⟩ = some (.int .i64 s.serial) := cell_of_cells h.tier.block 14
  have e14 : w.frozen? ⟨bt, 14, none⟩ = false := frozen_of_cells h.tier.block 14
  clear h HF HO HT hser hroom hlen hpar
  unfold placeV
  dsimp only
  go_enter Tryd.func103, Tryd.ntmps103
  go_wp2
  generalize hW : World.alloc _ _ = W0
  have T0 : Turn (fun k' => k' = bt) w W0 := by rw [← hW]; exact Turn.step_alloc (Turn.step_set (M := fun k' => k' = bt) (Turn.refl _ _) (Or.inr rfl))
  have hsz : W0.heap.size = w.heap.size + 1 := by rw [← hW]; simp
  have hb0 : W0.heap[w.heap.size]? = some (.cells #[.int .i64 (n : Int), .string k] 100 (0, 0)) := by
    rw [← hW]
    have := new1_0 (w.setCell ⟨bt, 14, none⟩ (.int .i64 (s.serial + 1))) (.cells #[.int .i64 (n : Int), .string k] 100 (0, 0))
    simpa using this
  have hbT : W0.heap[bt]? = some (.cells ({ s.ts g with serial := s.serial + 1 } : TS).cells 97 (0, 0)) := by
    rw [← hW, (MapKept.heap_alloc _ _).2 bt (by simpa using hbt), heap_set (unhide HH).tier.block]; rfl
  clear hW
  obtain ⟨kl, hkey⟩ := placeKey (p := (n, k)) (by omega) hk
  have hM0 : MapIs Tryd.prog 100 W0.drew g.bq (rawL placeV ftV s.fts) := (unhide HH).fts.heap (T0.block _ hbq hne)
  obtain ⟨w2, hrun, hm2, ht2⟩ := map_put hM0 placeKeyed Tryd.underlying95 placeV_inj hkey ⟨s.serial + 1, s.clk n, l, .slice va vn vc⟩ (by have := (unhide HNUM).2.1; unfold maxLen; omega)
  have hgrow := ht2.grown
  simp only [placeV, ftV] at hrun
  have x0 := cell_of_cells hb0 0
  have x1 := cell_of_cells hb0 1
  have c13 : W0.cell? ⟨bt, 13, none⟩ = some (.map (some g.bq)) := cell_of_cells hbT 13
  have c14 : W0.cell? ⟨bt, 14, none⟩ = some (.int .i64 (s.serial + 1)) := cell_of_cells hbT 14
  have c6 : W0.cell? ⟨bt, 6 + n, none⟩ = some (.int .i64 (s.clk n)) := TierIs.clk (t := { s.ts g with serial := s.serial + 1 }) ⟨hbT⟩ hn
  have hq0 : Hid (∀ k', some k' = some g.bq → k' < w.heap.size ∧ k' ≠ bt) := fun k' e => by cases e; exact ⟨hbq, hne⟩
  clear hM0 ht2 d14 e14
  have KM := hide hm2
  clear hm2
  have HS : ∀ w', Turn (fun k' => k' = 0 ∧ False ∨ some k' = some g.bq) W0 w' → Turn (fun k' => k' = 0 ∧ False ∨ some k' = some g.bq) W0 w' ∧ w'.cell? ⟨w.heap.size, 0, none⟩ = some (.int .i64 (n : Int)) ∧ w'.cell? ⟨w.heap.size, 1, none⟩ = some (.string k) ∧ w'.cell? ⟨bt, 13, none⟩ = some (.map (some g.bq)) ∧ w'.cell? ⟨bt, 14, none⟩ = some (.int .i64 (s.serial + 1)) ∧ w'.cell? ⟨bt, 6 + n, none⟩ = some (.int .i64 (s.clk n)) :=
    fun w' T => ⟨T, T.cell x0 (fun h => h.elim (fun e => e.2) (fun e => absurd (unhide hq0 _ e).1 (by dsimp only; omega))), T.cell x1 (fun h => h.elim (fun e => e.2) (fun e => absurd (unhide hq0 _ e).1 (by dsimp only; omega))), T.cell c13 (fun h => h.elim (fun e => e.2) (fun e => (unhide hq0 _ e).2 rfl)), T.cell c14 (fun h => h.elim (fun e => e.2) (fun e => (unhide hq0 _ e).2 rfl)), T.cell c6 (fun h => h.elim (fun e => e.2) (fun e => (unhide hq0 _ e).2 rfl))⟩
  go_region_held3 (fun w' => Turn (fun k' => k' = 0 ∧ False ∨ some k' = some g.bq) W0 w' ∧ w'.cell? ⟨w.heap.size, 0, none⟩ = some (.int .i64 (n : Int)) ∧ w'.cell? ⟨w.heap.size, 1, none⟩ = some (.string k) ∧ w'.cell? ⟨bt, 13, none⟩ = some (.map (some g.bq)) ∧ w'.cell? ⟨bt, 14, none⟩ = some (.int .i64 (s.serial + 1)) ∧ w'.cell? ⟨bt, 6 + n, none⟩ = some (.int .i64 (s.clk n))) ((go_split_ands; apply HS; all_goals (repeat (first | with_reducible assumption | with_reducible exact Turn.refl _ _ | with_reducible apply Turn.step_alloc | with_reducible apply Turn.step_drew | ((with_reducible refine Turn.step_turn (N := nothing) ?_ (by assumption) ?_); rotate_left; · exact fun _ _ h => False.elim h) | ((with_reducible refine Turn.step_set ?_ ?_); rotate_left; · first | exact Or.inr rfl | exact Or.inr (Or.inl rfl) | exact Or.inl (by simp <;> omega)) | ((with_reducible refine Turn.step_turn ?_ (Turn.grown (by assumption)) ?_); rotate_left; · exact fun _ _ h => Or.inr h) | with_reducible apply There.drew | with_reducible apply There.set | ((with_reducible refine There.turn ?_ (by assumption) ?_); rotate_left; · exact id) | assumption)))) (fail)
  go_split_ands
  clear HS
  go_wp2
  have hno : own w.heap.size = none := (unhide HH).top _ (Nat.le_refl _)
  have hT2 : Turn (fun k' => k' = bt ∨ k' = g.bq) w w2 := (T0.mono (fun _ _ h => Or.inl h)).step_drew.step_turn (Turn.grown hgrow) (fun _ _ h => Or.inr (Option.some.inj h))
  have hb2 : w2.heap[bt]? = some (.cells ({ s.ts g with serial := s.serial + 1 } : TS).cells 97 (0, 0)) := (hgrow.block bt (by show bt < W0.heap.size; omega) (fun e => (unhide hq0 _ e).2 rfl)).trans hbT
  have HL2 := hide ((unhide KF).1 w2 (unhide KM) hb2 hT2)
  have HO2 : Hid (Step τ own own' w w2) := ⟨hT2.mono (fun k' _ h => h.elim (fun e => ⟨1, by rw [e]; exact (unhide HH).tierO⟩) (fun e => ⟨13, by rw [e]; exact (unhide HH).ftsO⟩)), (unhide KF).2⟩
  have hs1 : w.heap.size < w2.heap.size := by have := hgrow.size; have e : W0.drew.heap.size = W0.heap.size := rfl; omega
  have y0 : w2.cell? ⟨w.heap.size, 0, none⟩ = some (.int .i64 (n : Int)) := (Turn.grown hgrow).cell (w := W0.drew) x0 (fun e => absurd (unhide hq0 _ e).1 (by dsimp only; omega))
  have y1 : w2.cell? ⟨w.heap.size, 1, none⟩ = some (.string k) := (Turn.grown hgrow).cell (w := W0.drew) x1 (fun e => absurd (unhide hq0 _ e).1 (by dsimp only; omega))
  obtain ⟨pb, pc, hpv, hpo, hpb, hpc⟩ := (unhide HL2).parent (n := n) (unhide HNUM).2.2.2
  dsimp only at hpv hpo hpb hpc
  have hS0 : ∀ (w' : World) (oX : Own) (gX : Gh) (net : List Mes), Lies oX τ w' bt gX { s with serial := s.serial + 1, fts := aput s.fts (n, k) ⟨s.serial + 1, s.clk n, l, .slice va vn vc⟩, net := net } → g.Like gX → w'.cell? ⟨w.heap.size, 0, none⟩ = some (.int .i64 (n : Int)) → w'.cell? ⟨w.heap.size, 1, none⟩ = some (.string k) →
      w'.cell? ⟨w.heap.size, 0, none⟩ = some (.int .i64 (n : Int)) ∧ w'.cell? ⟨w.heap.size, 1, none⟩ = some (.string k) ∧ w'.cell? ⟨bt, 0, none⟩ = some (.slice (some ⟨pb, 0, none⟩) s.c.parents.length pc) ∧ w'.cell? ⟨bt, 14, none⟩ = some (.int .i64 (s.serial + 1)) ∧ w'.cell? ⟨pb, n, none⟩ = some (.int .i64 (s.c.parents.getD n 0)) := by
    intro w' oX gX net hl gl a b
    obtain ⟨pb', pc', q1, _, _, q2⟩ := hl.parent (n := n) (unhide HNUM).2.2.2
    rw [gl.pv, hpv] at q1
    cases q1
    exact ⟨a, b, by rw [← hpv, ← gl.pv]; exact cell_of_cells hl.tier.block 0, cell_of_cells hl.tier.block 14, q2⟩
  have HSH := hide hS0
  have i2 : (n : Int) < (s.c.parents.length : Int) := by have := (unhide HNUM).2.2.2; omega
  have KS := hide (send_any own' τ bt g { s with serial := s.serial + 1, fts := aput s.fts (n, k) ⟨s.serial + 1, s.clk n, l, .slice va vn vc⟩ } ⟨1, n, s.c.parents.getD n 0, k, s.serial + 1, tg, 0, 0, none8⟩ w2.drew ((unhide HL2).turn (Turn.drew _ _)) (unhide HNUM).2.2.1)
  simp only [mesV, mesL, none8] at KS
  clear hrun hgrow hbT hb2 x0 x1 c13 c14 c6 hb0 KM hT2 hS0 KF hw1 hpc
  go_split_ands
  go_region_held3 (fun w' => w'.cell? ⟨w.heap.size, 0, none⟩ = some (.int .i64 (n : Int)) ∧ w'.cell? ⟨w.heap.size, 1, none⟩ = some (.string k) ∧ w'.cell? ⟨bt, 0, none⟩ = some (.slice (some ⟨pb, 0, none⟩) s.c.parents.length pc) ∧ w'.cell? ⟨bt, 14, none⟩ = some (.int .i64 (s.serial + 1)) ∧ w'.cell? ⟨pb, n, none⟩ = some (.int .i64 (s.c.parents.getD n 0)))
    ((first | exact unhide HSH _ own' g s.net ((unhide HL2).turn (Turn.drew _ _)) (Gh.Like.refl g) y0 y1 | exact unhide HSH _ _ _ _ L3 GL3 (S3.cell (w := w2.drew) y0 hno2) (S3.cell (w := w2.drew) y1 hno2)))
    (first | (go_at_call 96; refine (unhide KS).mono ?_; rintro e w3 ⟨rfl, own3, g3, L3, S3, GL3⟩))
  go_split_ands
  have HE := hide (And.intro L3 (And.intro (((unhide HO2).trans (Step.of_turn (Turn.drew _ _))).trans S3) GL3))
  clear L3 S3 GL3 HSH
  go_wp2
  go_end0
  exact ⟨rfl, own3, g3, (unhide HE).1, (unhide HE).2.1, (unhide HE).2.2⟩

end Go.Proofs.YtpdkojgepagbnaaDoor

namespace Go.Proofs.YtpdkojgepagbnaaDoor
set_option maxRecDepth 100000
open Go.RowKit
open Tier (Mes Ans Conf)

theorem fetch_new (own : Own) (τ bt : Nat) (g : Gh) (s : PS) (n : Nat) (k : ByteArray) (tg : Int) (l : List Wt) (va : Option Addr) (vn vc : Nat) (w : World) (h : Lies own τ w bt g s) (hn : n < 6) (hk : k.size ≤ 100) (hser : 0 ≤ s.serial ∧ s.serial < 1000000000000) (hroom : s.fts.length ≤ 1000000000000) (hlen : s.net.length < 1000000000000) (hpar : n < s.c.parents.length)
    (hrow : Row own τ (16 + (s.serial + 1).toNat) w 105 4 (.slice va vn vc) (l.map wtL)) :
    Calls Tryd.prog 103 #[.pointer (some ⟨bt, 0, none⟩), placeV (n, k), .int .i64 tg, .slice va vn vc] w fun r w' => r = .returned (.tuple #[]) ∧ ∃ own2 g2, Lies own2 τ w' bt g2 (s.fetch n k tg l (.slice va vn vc)) ∧ Step τ own own2 w w' ∧ g.Like g2 := by
  refine fetch_walk own own τ bt g s n k tg l va vn vc w h hn hk hser hroom hlen hpar ?_ (fun _ _ => Or.inl rfl) h.top
  intro w2 hm hb hT
  refine h.fetched own (fun _ _ _ _ _ => rfl) (fun k' hk' => h.top k' (Nat.le_trans hT.size hk')) (hrow.frame (fun k' hk' ho => ⟨hT.block k' hk' ?_, rfl⟩)) hm hb (fun k' hk' h1 h2 => hT.block k' hk' (fun e => e.elim h1 h2))
  rintro (rfl | rfl)
  · rw [h.tierO] at ho; injection ho with ho; injection ho with _ ho; omega
  · rw [h.ftsO] at ho; injection ho with ho; injection ho with _ ho; omega

theorem fetch_again (own : Own) (τ bt : Nat) (g : Gh) (s : PS) (n : Nat) (k : ByteArray) (tg : Int) (f : Ft) (w : World) (h : Lies own τ w bt g s) (hn : n < 6) (hk : k.size ≤ 100) (hser : 0 ≤ s.serial ∧ s.serial < 1000000000000) (hroom : s.fts.length ≤ 1000000000000) (hlen : s.net.length < 1000000000000) (hpar : n < s.c.parents.length)
    (hf : aget s.fts (n, k) = some f) (hap : s.fts.Pairwise (fun p q => p.2.serial ≠ q.2.serial)) (hpos : ∀ p ∈ s.fts, 0 < p.2.serial ∧ p.2.serial ≤ s.serial) :
    Calls Tryd.prog 103 #[.pointer (some ⟨bt, 0, none⟩), placeV (n, k), .int .i64 tg, f.v] w fun r w' => r = .returned (.tuple #[]) ∧ ∃ own2 g2, Lies own2 τ w' bt g2 (s.fetch n k tg f.l f.v) ∧ Step τ own own2 w w' ∧ g.Like g2 := by
  have hmem := aget_mem hf
  have hr := h.waits _ hmem
  dsimp only at hr
  have hfp := hpos _ hmem
  dsimp only at hfp
  obtain ⟨va, vc, hv⟩ := row_form hr.row
  rw [hv] at hr ⊢
  have hmv : ∀ {k' x}, own k' = some (τ, x) → x ≠ 16 + f.serial.toNat → moveO own (τ, 16 + f.serial.toNat) (τ, 16 + (s.serial + 1).toNat) k' = own k' := fun {k' x} ho hx => by
    unfold moveO
    rw [if_neg]
    rw [ho]
    intro e
    cases e
    exact hx rfl
  have htop : ∀ k', w.heap.size ≤ k' → moveO own (τ, 16 + f.serial.toNat) (τ, 16 + (s.serial + 1).toNat) k' = none := fun k' hk' => by
    unfold moveO
    rw [h.top k' hk']
    rfl
  refine fetch_walk own (moveO own (τ, 16 + f.serial.toNat) (τ, 16 + (s.serial + 1).toNat)) τ bt g s n k tg f.l va _ vc w h hn hk hser hroom hlen hpar ?_ (fun k' _ => ?_) htop
  · intro w2 hm hb hT
    refine h.fetched _ (fun k' _ x hx ho => hmv ho ?_) (fun k' hk' => htop k' (Nat.le_trans hT.size hk')) ?_ hm hb (fun k' hk' h1 h2 => hT.block k' hk' (fun e => e.elim h1 h2))
    · rcases hx with hx | ⟨p, hp1, hp2, hx⟩
      · omega
      · have h1 := (hpos p hp1).1
        have h3 : p.2.serial ≠ f.serial := fun e => by
          have := pw_eq (fun p : (Nat × ByteArray) × Ft => p.2.serial) hap hp1 hmem e
          rw [this] at hp2
          exact hp2 rfl
        omega
    · have hlt := hr.row.lt
      obtain ⟨⟨hl, hvv⟩, hmn⟩ := hr
      refine ⟨⟨hl, ?_⟩, fun k' hk' => by unfold moveO; rw [if_pos (hmn k' hk')]⟩
      rcases hvv with hvv | ⟨gb, cap, cur, hvv, hb0, hgb, r⟩
      · exact Or.inl hvv
      · cases hvv
        refine Or.inr ⟨gb, vc, cur, rfl, hb0, (hT.block gb (hlt gb rfl).2 ?_).trans hgb, r⟩
        have ho := hmn gb rfl
        rintro (rfl | rfl)
        · rw [h.tierO] at ho; injection ho with ho; injection ho with _ ho; omega
        · rw [h.ftsO] at ho; injection ho with ho; injection ho with _ ho; omega
  · by_cases e : own k' = some (τ, 16 + f.serial.toNat)
    · exact Or.inr ⟨⟨_, e⟩, Or.inr ⟨_, by unfold moveO; rw [if_pos e]⟩⟩
    · exact Or.inl (by unfold moveO; rw [if_neg e])

end Go.Proofs.YtpdkojgepagbnaaDoor
