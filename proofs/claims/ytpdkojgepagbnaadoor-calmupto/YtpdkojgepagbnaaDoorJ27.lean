/-
  A caller's shop in memory: what it knows beside its tier.
  Which key, which cache; what the origin's key is now; whether all is over: what the caller's functions answer.
  Whether all is over; which key an id asked for; whether this was the origin's from a time on.
  Whether this was the origin's at some time from a time on.
-/
import Derived.Test.YtpdkojgepagbnaaDoorJ06
import Derived.Test.YtpdkojgepagbnaaDoorJ23
import Derived.Test.YtpdkojgepagbnaaDoorJ09
namespace Go.Proofs.YtpdkojgepagbnaaDoor
set_option maxRecDepth 100000
open Go.RowKit
open Tier (Mes Ans Conf St Was)
attribute [local go_sem ↓] Go.wp_at_zero Go.wp_at_succ

def wasL (r : Was) : List Value := [.string r.key, .int .i64 r.ver, .int .i64 r.pres, .string r.val, .int .i64 r.frm]
def intL (n : Int) : List Value := [.int .i64 n]
def boolL (b : Bool) : List Value := [.bool b]

/-- Where an element of a row lies. -/
theorem Row.at {own : Own} {τ x e m : Nat} {w : World} {v : Value} {l : List (List Value)} (h : Row own τ x w e m v l) (hm : ∀ y ∈ l, y.length = m) {j : Nat} {r : List Value} (hj : l[j]? = some r) :
    ∃ b c, v = .slice (some ⟨b, 0, none⟩) l.length c ∧ own b = some (τ, x) ∧ b < w.heap.size ∧ (∀ i, i < m → w.cell? ⟨b, j * m + i, none⟩ = r[i]?) ∧ ∀ i, w.frozen? ⟨b, i, none⟩ = false := by
  have hlen : j < l.length := (List.getElem?_eq_some_iff.1 hj).1
  have hr := h.row
  have hr' := hr
  obtain ⟨hl, ⟨hv, h0⟩ | ⟨b, cap, cur, hv, _, hg, _⟩⟩ := hr
  · omega
  · rw [hv] at hr'
    refine ⟨b, cap, hv, h.mine b (by rw [hv]; rfl), heap_lt hg, fun i hi => ?_, fun i => frozen_of_cells hg i⟩
    have h1 : j * m + i < l.length * m := by
      have : (j + 1) * m ≤ l.length * m := Nat.mul_le_mul_right m hlen
      rw [Nat.succ_mul] at this
      omega
    rw [hr'.cellAt (j * m + i) h1]
    exact flatten_get l j i r hm hj hi

theorem Row.atM {α : Type} {f : α → List Value} {own : Own} {τ x e m : Nat} {w : World} {v : Value} {l : List α} (h : Row own τ x w e m v (l.map f)) (hm : ∀ a, (f a).length = m) {j : Nat} {a : α} (hj : l[j]? = some a) :
    ∃ b c, v = .slice (some ⟨b, 0, none⟩) l.length c ∧ own b = some (τ, x) ∧ b < w.heap.size ∧ (∀ i, i < m → w.cell? ⟨b, j * m + i, none⟩ = (f a)[i]?) ∧ ∀ i, w.frozen? ⟨b, i, none⟩ = false := by
  obtain ⟨b, c, h1, h2, h3, h4, h5⟩ := h.at (by intro y hy; obtain ⟨z, _, rfl⟩ := List.mem_map.1 hy; exact hm z) (j := j) (r := f a) (by simp [hj])
  rw [List.length_map] at h1
  exact ⟨b, c, h1, h2, h3, h4, h5⟩

theorem flatten_one {l : List (List Value)} (hm : ∀ y ∈ l, y.length = 1) (j : Nat) (v : Value) : (l.set j [v]).flatten = l.flatten.set j v := by
  induction l generalizing j with
  | nil => simp
  | cons y r ih =>
    have hy : ∃ u, y = [u] := List.length_eq_one_iff.1 (hm y (by simp))
    obtain ⟨u, rfl⟩ := hy
    cases j with
    | zero => simp
    | succ j => simp [ih (fun z hz => hm z (by simp [hz]))]

/-- An element of a row of single cells is written. -/
theorem Row.set1 {own : Own} {τ x e : Nat} {w : World} {b n c : Nat} {l : List (List Value)} (h : Row own τ x w e 1 (.slice (some ⟨b, 0, none⟩) n c) l) (hm : ∀ y ∈ l, y.length = 1) (j : Nat) (v : Value) : Row own τ x (w.setCell ⟨b, j, none⟩ v) e 1 (.slice (some ⟨b, 0, none⟩) n c) (l.set j [v]) := by
  obtain ⟨⟨hl, hv⟩, hmn⟩ := h
  rcases hv with ⟨hv, h0⟩ | ⟨g, cap, cur, hv, hb, hg, h1, h2, h3, h4⟩
  · cases hv
  · cases hv
    refine ⟨⟨by rw [flatten_one hm, List.length_set, List.length_set]; exact hl, Or.inr ⟨b, c, cur.setIfInBounds j v, by rw [List.length_set], hb, heap_set hg, by rw [List.length_set]; exact h1, h2, by simpa using h3, ?_⟩⟩, hmn⟩
    rw [flatten_one hm, List.length_set, ← h4]
    simp [List.take_set]

structure ShG where
  bt : Nat
  pv : Value
  cv : Value
  lv : Value
  ov : Value

def shopC (q : ShG) (c : Conf) (h : Sh) : Array Value := #[.pointer (some ⟨q.bt, 0, none⟩), q.pv, .int .i64 c.drift, .int .i64 c.budget, .int .i64 c.entries, .int .i64 c.waiters, .int .i64 h.now, q.cv, q.lv, .int .i64 (h.opn.length : Int), q.ov, .bool h.tired]

/-- In w lies a shop. (1 its block, 2 its parents, 3 the clocks, 4 the origin's past, 5 who is open.) -/
structure ShopIs (own : Own) (w : World) (bs : Nat) (q : ShG) (c : Conf) (h : Sh) : Prop where
  block : w.heap[bs]? = some (.cells (shopC q c h) 52 (0, 0))
  blockO : own bs = some (1, 1)
  pars : Row own 1 2 w 3 1 q.pv (c.parents.map intL)
  clocks : Row own 1 3 w 3 1 q.cv (h.clocks.map intL)
  hist : Row own 1 4 w 85 5 q.lv (h.l.map wasL)
  opn : Row own 1 5 w 4 1 q.ov (h.opn.map boolL)

theorem one_intL (l : List Int) : ∀ y ∈ l.map intL, y.length = 1 := by intro y hy; obtain ⟨z, _, rfl⟩ := List.mem_map.1 hy; rfl
theorem one_boolL (l : List Bool) : ∀ y ∈ l.map boolL, y.length = 1 := by intro y hy; obtain ⟨z, _, rfl⟩ := List.mem_map.1 hy; rfl
theorem five_wasL (l : List Was) : ∀ y ∈ l.map wasL, y.length = 5 := by intro y hy; obtain ⟨z, _, rfl⟩ := List.mem_map.1 hy; rfl

theorem ShopIs.lt {own : Own} {w : World} {bs : Nat} {q : ShG} {c : Conf} {h : Sh} (s : ShopIs own w bs q c h) : bs < w.heap.size := heap_lt s.block

/-- It stays what it is while nothing of its own is written. -/
theorem ShopIs.frame {own own' : Own} {w w' : World} {bs : Nat} {q : ShG} {c : Conf} {h : Sh} (s : ShopIs own w bs q c h) (hf : ∀ k, k < w.heap.size → Mine own 1 k → w'.heap[k]? = w.heap[k]? ∧ own' k = own k) : ShopIs own' w' bs q c h := by
  have hR : ∀ {x e size : Nat} {v : Value} {l : List (List Value)}, Row own 1 x w e size v l → Row own' 1 x w' e size v l := fun hr => hr.frame (fun k hk hx => hf k hk ⟨_, hx⟩)
  exact ⟨(hf bs s.lt ⟨_, s.blockO⟩).1.trans s.block, by rw [(hf bs s.lt ⟨_, s.blockO⟩).2]; exact s.blockO, hR s.pars, hR s.clocks, hR s.hist, hR s.opn⟩
theorem ShopIs.turn {own : Own} {w w' : World} {bs : Nat} {q : ShG} {c : Conf} {h : Sh} (s : ShopIs own w bs q c h) (T : Turn nothing w w') : ShopIs own w' bs q c h := s.frame (fun k hk _ => ⟨T.block k hk id, rfl⟩)
theorem ShopIs.step {own own' : Own} {w w' : World} {bs : Nat} {q : ShG} {c : Conf} {h : Sh} (s : ShopIs own w bs q c h) (S : Step 0 own own' w w') : ShopIs own' w' bs q c h := by
  refine s.frame (fun k hk ⟨x, hx⟩ => ⟨S.turn.block k hk (fun ⟨y, hy⟩ => ?_), ?_⟩)
  · rw [hx] at hy; cases hy
  · rcases S.same k hk with e | ⟨⟨y, hy⟩, _⟩
    · exact e
    · rw [hx] at hy; cases hy

end Go.Proofs.YtpdkojgepagbnaaDoor

namespace Go.Proofs.YtpdkojgepagbnaaDoor
set_option maxRecDepth 100000
open Go.RowKit
open Tier (Mes Ans Conf St Was)
attribute [local go_sem ↓] Go.wp_at_zero Go.wp_at_succ

theorem pick_i64 (c n : Int) (w : World) (hc : I64 c) (hn : 0 < n ∧ n ≤ 1000000000000) : Calls Tryd.prog 13 #[.int .i64 c, .int .i64 n] w fun e w' => e = .returned (.int .i64 (pickN c n)) ∧ w' = w :=
  pick_any c n w hc (by omega)

set_option maxHeartbeats 1000000 in
theorem keyOf_any (raw : Int) (w : World) (hr : I64 raw) : Calls Tryd.prog 21 #[.int .i64 raw] w fun e w' => e = .returned (.string (keyD raw)) ∧ Turn nothing w w' := by
  have KP := hide (fun w => pick_i64 raw 4 w hr (by omega))
  obtain ⟨k, hk, hk4⟩ : ∃ k : Nat, pickN raw 4 = (k : Int) ∧ k < 4 := by
    have := pickN_ok raw (n := 4) (by decide)
    exact ⟨(pickN raw 4).toNat, by omega, by omega⟩
  have e : keyD raw = keyI k := by unfold keyD; rw [hk]; rfl
  rw [e]
  rw [hk] at KP
  have i0 : (0 : Int) ≤ (k : Int) := by omega
  have i1 : (k : Int) < 4 := by omega
  clear hr e hk
  go_enter Tryd.func21, Tryd.ntmps21
  go_wp2_with fail
  generalize hW : World.alloc _ _ = W0
  have T0 : Turn nothing w W0 := by rw [← hW]; exact Turn.alloc _ _ _
  have hc : W0.cell? ⟨w.heap.size, k, none⟩ = some (.string (keyI k)) := by
    rw [← hW, cell_of_cells (new1_0 w _)]
    match k, hk4 with
    | 0, _ => rfl
    | 1, _ => rfl
    | 2, _ => rfl
    | 3, _ => rfl
  clear hW hk4
  refine (unhide KP W0).mono ?_
  rintro e w1 ⟨rfl, rfl⟩
  go_wp2
  go_ret
  exact ⟨rfl, T0⟩

variable {own : Own} {w : World} {bs : Nat} {q : ShG} {c : Conf} {h : Sh}

set_option maxHeartbeats 1000000 in
theorem cache_any (s : ShopIs own w bs q c h) (hl : 2 ≤ c.parents.length ∧ c.parents.length ≤ 6) (raw : Int) (hr : I64 raw) : Calls Tryd.prog 23 #[.pointer (some ⟨bs, 0, none⟩), .int .i64 raw] w fun e w' => e = .returned (.int .i64 ((cacheD c raw : Nat) : Int)) ∧ w' = w := by
  have KP := hide (fun w => pick_i64 raw ((c.parents.length : Int) - 1) w hr (by omega))
  obtain ⟨a, cc, hv⟩ := row_form s.pars.row
  rw [List.length_map] at hv
  have d1 : w.cell? ⟨bs, 1, none⟩ = some (.slice a c.parents.length cc) := by rw [← hv]; exact cell_of_cells s.block 1
  have hb := pickN_ok raw (n := (c.parents.length : Int) - 1) (by omega)
  rw [cacheD_int hl.1]
  clear s hr hv
  generalize pickN raw ((c.parents.length : Int) - 1) = p at *
  generalize c.parents.length = n at *
  go_enter Tryd.func23, Tryd.ntmps23
  go_wp2_with fail
  refine (unhide KP w).mono ?_
  rintro e w1 ⟨rfl, rfl⟩
  go_wp2
  go_ret
  exact ⟨ret_int (by first | rfl | (rw [IntKind.wrap_i64]; omega)), rfl⟩

def wasV (r : Was) : Value := .agg (wasL r).toArray
def noWas (k : ByteArray) : Was := ⟨k, 0, 0, Tier.empty, 0⟩

theorem lastOf_at {l : List Was} {k : ByteArray} {j : Nat} {r : Was} (hj : l[j]? = some r) (hk : r.key = k) (hn : ∀ r ∈ l.drop (j + 1), r.key ≠ k) : lastOf l k = r := by
  have hlen : j < l.length := (List.getElem?_eq_some_iff.1 hj).1
  have e : l = l.take j ++ r :: l.drop (j + 1) := by
    obtain ⟨h1, h2⟩ := List.getElem?_eq_some_iff.1 hj
    rw [← h2, List.getElem_cons_drop, List.take_append_drop]
  unfold lastOf
  rw [e, List.reverse_append, List.reverse_cons, List.append_assoc, List.find?_append]
  have h1 : (l.drop (j + 1)).reverse.find? (fun r => decide (r.key = k)) = none := List.find?_eq_none.2 (fun x hx => by simpa using hn x (List.mem_reverse.1 hx))
  rw [h1]
  simp [hk]
theorem lastOf_none {l : List Was} {k : ByteArray} (hn : ∀ r ∈ l, r.key ≠ k) : lastOf l k = noWas k := by
  unfold lastOf
  have h1 : l.reverse.find? (fun r => decide (r.key = k)) = none := List.find?_eq_none.2 (fun x hx => by simpa using hn x (List.mem_reverse.1 hx))
  rw [h1]; rfl

set_option maxHeartbeats 2000000 in
theorem last_any (s : ShopIs own w bs q c h) (hl : h.l.length ≤ 1000000000000) (k : ByteArray) (hk : k.size ≤ 100) : Calls Tryd.prog 41 #[.pointer (some ⟨bs, 0, none⟩), .string k] w fun e w' => e = .returned (wasV (lastOf h.l k)) ∧ Turn nothing w w' := by
  obtain ⟨a, cc, hv⟩ := row_form s.hist.row
  rw [List.length_map] at hv
  have d8 : w.cell? ⟨bs, 8, none⟩ = some (.slice a h.l.length cc) := by rw [← hv]; exact cell_of_cells s.block 8
  have hbs := s.lt
  have HA : Hid (∀ j r, h.l[j]? = some r → ∃ b, a = some ⟨b, 0, none⟩ ∧ b < w.heap.size ∧ ∀ i, i < 5 → w.cell? ⟨b, j * 5 + i, none⟩ = (wasL r)[i]?) := fun j r hj => by
    obtain ⟨b, c', e, _, hb, hcell, _⟩ := s.hist.atM (fun _ => rfl) hj
    rw [hv] at e
    cases e
    exact ⟨b, rfl, hb, hcell⟩
  clear s hv
  generalize h.l = l at *
  generalize hn : l.length = n at *
  go_enter Tryd.func41, Tryd.ntmps41
  go_wp2
  generalize hW : World.alloc _ _ = W0
  have T0 : Turn nothing w W0 := by rw [← hW]; exact Turn.alloc _ _ _
  have R0 : There W0 w.heap.size 5 := by rw [← hW]; exact There.new rfl (by simp)
  have c8 := T0.cell d8 id
  have r0 := peek_some (R0.are 0 (by omega))
  have r1 := peek_some (R0.are 1 (by omega))
  have r2 := peek_some (R0.are 2 (by omega))
  have r3 := peek_some (R0.are 3 (by omega))
  have r4 := peek_some (R0.are 4 (by omega))
  have f0 := R0.free 0
  have f1 := R0.free 1
  have f2 := R0.free 2
  have f3 := R0.free 3
  have f4 := R0.free 4
  clear hW d8
  go_loopw [5] (fun i wr => ∃ j : Nat, j ≤ n ∧ i = .int .i64 ((j : Int) - 1) ∧ wr = W0 ∧ Hid (∀ r ∈ l.drop j, r.key ≠ k)) (fun i _ => (intOf i + 1).toNat)
  case atStart => exact ⟨n, Nat.le_refl _, by go_num, rfl, by show ∀ r ∈ l.drop n, _; rw [← hn, List.drop_length]; intro r hr; cases hr⟩
  case round =>
    obtain ⟨j, hj, rfl, rfl, HN⟩ := hrel
    cases j with
    | zero =>
      have hfin := hide (lastOf_none (fun r hr => unhide HN r (by simpa using hr)))
      go_wp2
      exact bodyPost_ret (v := wasV (noWas k)) (by simp [results, Tryd.results41, go_sem, r0, r1, r2, r3, r4, wasV, wasL, noWas, Tier.empty]) rfl ⟨by rw [unhide hfin], by (repeat (first | with_reducible assumption | with_reducible exact Turn.refl _ _ | with_reducible apply Turn.step_alloc | with_reducible apply Turn.step_drew | ((with_reducible refine Turn.step_turn (N := nothing) ?_ (by assumption) ?_); rotate_left; · exact fun _ _ h => False.elim h) | ((with_reducible refine Turn.step_set ?_ ?_); rotate_left; · first | exact Or.inr rfl | exact Or.inr (Or.inl rfl) | exact Or.inl (by simp <;> omega)) | ((with_reducible refine Turn.step_turn ?_ (Turn.grown (by assumption)) ?_); rotate_left; · exact fun _ _ h => Or.inr h) | with_reducible apply There.drew | with_reducible apply There.set | ((with_reducible refine There.turn ?_ (by assumption) ?_); rotate_left; · exact id) | assumption))⟩
    | succ j =>
      obtain ⟨r, hr⟩ : ∃ r, l[j]? = some r := ⟨_, List.getElem?_eq_getElem (by omega)⟩
      obtain ⟨b, rfl, hb, hcell⟩ := unhide HA j r hr
      have e0 := T0.cell (show w.cell? ⟨b, j * 5, none⟩ = some (.string r.key) from hcell 0 (by omega)) id
      have e1 := T0.cell (show w.cell? ⟨b, j * 5 + 1, none⟩ = some (.int .i64 r.ver) from hcell 1 (by omega)) id
      have e2 := T0.cell (show w.cell? ⟨b, j * 5 + 2, none⟩ = some (.int .i64 r.pres) from hcell 2 (by omega)) id
      have e3 := T0.cell (show w.cell? ⟨b, j * 5 + 3, none⟩ = some (.string r.val) from hcell 3 (by omega)) id
      have e4 := T0.cell (show w.cell? ⟨b, j * 5 + 4, none⟩ = some (.int .i64 r.frm) from hcell 4 (by omega)) id
      have j0 : (0 : Int) ≤ (((j + 1 : Nat) : Int) - 1) := by omega
      have j1 : (((j + 1 : Nat) : Int) - 1) < (n : Int) := by omega
      have j2 : (((j + 1 : Nat) : Int) - 1).toNat = j := by omega
      clear hcell HA
      by_cases hkk : r.key = k
      · subst hkk
        have hfin := hide (lastOf_at hr rfl (unhide HN))
        have hkb : (r.key.toList == r.key.toList) = true := by rw [bytes_same]; exact decide_eq_true rfl
        go_wp2
        exact bodyPost_ret (v := wasV r) (by simp [results, Tryd.results41, go_sem, r0, r1, r2, r3, r4, wasV, wasL]) rfl ⟨by rw [unhide hfin], by (repeat (first | with_reducible assumption | with_reducible exact Turn.refl _ _ | with_reducible apply Turn.step_alloc | with_reducible apply Turn.step_drew | ((with_reducible refine Turn.step_turn (N := nothing) ?_ (by assumption) ?_); rotate_left; · exact fun _ _ h => False.elim h) | ((with_reducible refine Turn.step_set ?_ ?_); rotate_left; · first | exact Or.inr rfl | exact Or.inr (Or.inl rfl) | exact Or.inl (by simp <;> omega)) | ((with_reducible refine Turn.step_turn ?_ (Turn.grown (by assumption)) ?_); rotate_left; · exact fun _ _ h => Or.inr h) | with_reducible apply There.drew | with_reducible apply There.set | ((with_reducible refine There.turn ?_ (by assumption) ?_); rotate_left; · exact id) | assumption))⟩
      · have HN' : Hid (∀ r ∈ l.drop j, r.key ≠ k) := fun x hx => by
          rw [List.drop_eq_getElem_cons (by omega)] at hx
          rcases List.mem_cons.1 hx with hx | hx
          · rw [hx]
            have := (List.getElem?_eq_some_iff.1 hr).2
            rw [this]; exact hkk
          · exact unhide HN x hx
        have hkb : (r.key.toList == k.toList) = false := by rw [bytes_same]; exact decide_eq_false hkk
        go_wp2
        exact ⟨⟨j, by omega, rfl, trivial, HN'⟩, by simp [intOf]⟩

end Go.Proofs.YtpdkojgepagbnaaDoor

namespace Go.Proofs.YtpdkojgepagbnaaDoor
set_option maxRecDepth 100000
open Go.RowKit
open Tier (Mes Ans Conf St Was)
attribute [local go_sem ↓] Go.wp_at_zero Go.wp_at_succ

variable {own : Own} {w : World} {bs : Nat} {q : ShG} {c : Conf} {h : Sh}

set_option maxHeartbeats 1000000 in
theorem over_any (s : ShopIs own w bs q c h) (hl : 1 ≤ h.clocks.length ∧ h.clocks.length ≤ 100) : Calls Tryd.prog 25 #[.pointer (some ⟨bs, 0, none⟩)] w fun e w' => e = .returned (.bool (overB h)) ∧ w' = w := by
  obtain ⟨a, cc, hv⟩ := row_form s.clocks.row
  rw [List.length_map] at hv
  have d7 : w.cell? ⟨bs, 7, none⟩ = some (.slice a h.clocks.length cc) := by rw [← hv]; exact cell_of_cells s.block 7
  have d11 : w.cell? ⟨bs, 11, none⟩ = some (.bool h.tired) := cell_of_cells s.block 11
  have HA : Hid (∀ j r, h.clocks[j]? = some r → ∃ b, a = some ⟨b, 0, none⟩ ∧ w.cell? ⟨b, j, none⟩ = some (.int .i64 r)) := fun j r hj => by
    obtain ⟨b, c', e, _, hb, hcell, _⟩ := s.clocks.atM (fun _ => rfl) hj
    rw [hv] at e
    cases e
    have := hcell 0 (by omega)
    rw [Nat.mul_one, Nat.add_zero] at this
    exact ⟨b, rfl, this⟩
  have HO : Hid (overB h = (h.tired || (h.clocks.drop 1).any fun c => decide (1099511627776 < c))) := rfl
  clear s hv
  generalize overB h = R at *
  generalize h.tired = ti at *
  generalize h.clocks = l at *
  generalize hn : l.length = n at *
  cases ti with
  | true =>
    have e : R = true := by rw [unhide HO]; rfl
    subst e
    go_enter Tryd.func25, Tryd.ntmps25
    go_wp2
    go_ret
    exact ⟨rfl, rfl⟩
  | false =>
    go_enter Tryd.func25, Tryd.ntmps25
    go_wp2
    go_loopw [3] (fun i wr => ∃ j : Nat, 1 ≤ j ∧ j ≤ n ∧ i = .int .i64 (j : Int) ∧ wr = w ∧ Hid (R = ((l.drop j).any fun c => decide (1099511627776 < c)))) (fun i _ => n - (intOf i).toNat)
    case atStart => exact ⟨1, Nat.le_refl _, hl.1, rfl, rfl, by show R = _; rw [unhide HO]; rfl⟩
    case round =>
      obtain ⟨j, j1, jn, rfl, rfl, HR⟩ := hrel
      by_cases hlt : j < n
      · obtain ⟨r, hr⟩ : ∃ r, l[j]? = some r := ⟨_, List.getElem?_eq_getElem (by omega)⟩
        obtain ⟨b, rfl, hcell⟩ := unhide HA j r hr
        have i0 : (0 : Int) ≤ (j : Int) := by omega
        have i1 : (j : Int) < (n : Int) := by omega
        have hdr : l.drop j = r :: l.drop (j + 1) := by
          rw [List.drop_eq_getElem_cons (by omega)]
          rw [(List.getElem?_eq_some_iff.1 hr).2]
        by_cases hgt : (1099511627776 : Int) < r
        · have e : R = true := by rw [unhide HR, hdr]; simp [hgt]
          subst e
          go_wp2
          go_ret
          exact ⟨rfl, rfl⟩
        · have HR' : Hid (R = ((l.drop (j + 1)).any fun c => decide (1099511627776 < c))) := by show R = _; rw [unhide HR, hdr]; simp [hgt]
          go_wp2
          go_roundw
          case rel => exact ⟨j + 1, by omega, by omega, by go_num, trivial, HR'⟩
          case measure => simp [intOf]; omega
      · have e : R = false := by
          rw [unhide HR, List.drop_of_length_le (by omega)]; rfl
        subst e
        go_wp2
        go_ret
        exact ⟨rfl, rfl⟩

/-- In w lies a script. -/
structure ScriptAt (w : World) (a : Option Addr) (l : List StepD) : Prop where
  at_ : ∀ j o, l[j]? = some o → ∃ b off, a = some ⟨b, off, none⟩ ∧ w.cell? ⟨b, off + j * 4, none⟩ = some (.int .i64 o.kind) ∧ w.cell? ⟨b, off + j * 4 + 1, none⟩ = some (.int .i64 o.a) ∧ w.cell? ⟨b, off + j * 4 + 2, none⟩ = some (.int .i64 o.b) ∧ w.cell? ⟨b, off + j * 4 + 3, none⟩ = some (.string o.s)
  ok : ∀ o ∈ l, I64 o.a ∧ I64 o.b ∧ I64 o.kind ∧ o.s.size ≤ maxLen

set_option maxHeartbeats 1000000 in
theorem asked_of (a : Option Addr) (cap : Nat) (l : List StepD) (id : Int) (w : World) (hs : ScriptAt w a l) (hl : l.length ≤ 1000000000000) : Calls Tryd.prog 51 #[.slice a l.length cap, .int .i64 id] w fun e w' => e = .returned (.string (askedF l 0 id)) ∧ Turn nothing w w' := by
  have HS := hide hs
  clear hs
  generalize hR : askedF l 0 id = R
  generalize hn : l.length = n at *
  go_enter Tryd.func51, Tryd.ntmps51
  go_wp2
  go_loopw [5, 6] (fun m i wr => ∃ j k : Nat, j ≤ n ∧ k ≤ j ∧ i = .int .i64 (j : Int) ∧ m = .int .i64 (k : Int) ∧ wr = w ∧ Hid (R = askedF (l.drop j) (k : Int) id)) (fun _ i _ => n - (intOf i).toNat)
  case atStart => exact ⟨0, 0, Nat.zero_le _, Nat.le_refl _, rfl, rfl, rfl, by show R = _; rw [← hR]; rfl⟩
  case round =>
    obtain ⟨j, k, jn, kj, rfl, rfl, rfl, HR⟩ := hrel
    by_cases hlt : j < n
    · obtain ⟨o, ho⟩ : ∃ o, l[j]? = some o := ⟨_, List.getElem?_eq_getElem (by omega)⟩
      obtain ⟨b, off, rfl, c0, c1, c2, c3⟩ := (unhide HS).at_ j o ho
      have hok := hide ((unhide HS).ok o (List.mem_of_getElem? ho))
      have i0 : (0 : Int) ≤ (j : Int) := by omega
      have i1 : (j : Int) < (n : Int) := by omega
      have hdr : l.drop j = o :: l.drop (j + 1) := by
        rw [List.drop_eq_getElem_cons (by omega)]
        rw [(List.getElem?_eq_some_iff.1 ho).2]
      by_cases hk : o.kind = 3
      · by_cases hid : (k : Int) = id
        · have e : R = keyD o.b := by rw [unhide HR, hdr]; unfold askedF; rw [if_pos hk, if_pos hid]
          subst e
          subst hid
          rw [hk] at c0
          clear hdr HR hk hR
          go_wp2_with fail
          refine (keyOf_any o.b wr (unhide hok).2.1).mono ?_
          rintro e w1 ⟨rfl, T1⟩
          go_wp2
          go_ret
          exact ⟨rfl, T1⟩
        · have HR' : Hid (R = askedF (l.drop (j + 1)) ((k + 1 : Nat) : Int) id) := by
            show R = _
            rw [unhide HR, hdr]
            conv => lhs; unfold askedF
            rw [if_pos hk, if_neg hid]; rfl
          rw [hk] at c0
          clear hdr HR hk hR
          go_wp2
          go_roundw
          case rel => exact ⟨j + 1, k + 1, by omega, by omega, by go_num, by go_num, trivial, HR'⟩
          case measure => simp [intOf]; omega
      · have HR' : Hid (R = askedF (l.drop (j + 1)) (k : Int) id) := by
          show R = _
          rw [unhide HR, hdr]
          conv => lhs; unfold askedF
          rw [if_neg hk]
        clear hdr HR hR
        go_wp2
        go_roundw
        case rel => exact ⟨j + 1, k, by omega, by omega, by go_num, rfl, trivial, HR'⟩
        case measure => simp [intOf]; omega
    · have e : R = Tier.empty := by
        rw [unhide HR, List.drop_of_length_le (by omega)]; rfl
      subst e
      clear HR
      go_wp2
      go_ret
      exact ⟨rfl, Turn.refl _ _⟩

end Go.Proofs.YtpdkojgepagbnaaDoor

namespace Go.Proofs.YtpdkojgepagbnaaDoor
set_option maxRecDepth 100000
open Go.RowKit
open Tier (Mes Ans Conf St Was firstOf heldFrom heldB)
attribute [local go_sem ↓] Go.wp_at_zero Go.wp_at_succ

variable {own : Own} {w : World} {bs : Nat} {q : ShG} {c : Conf} {h : Sh}

theorem firstOf_snoc (key : ByteArray) (a : Int) (l : List Was) (j : Nat) (r : Was) (h : l[j]? = some r) : firstOf key a (l.take (j + 1)) = if r.key = key ∧ r.frm < firstOf key a (l.take j) then r.frm else firstOf key a (l.take j) := by
  unfold firstOf
  rw [List.take_add_one, h]
  simp [List.foldl_append]
theorem firstOf_cons (key : ByteArray) (a : Int) (l : List Was) (j k : Nat) (r : Was) (hk : j ≤ k) (h : l[k]? = some r) : firstOf key a ((l.drop j).take (k + 1 - j)) = if r.key = key ∧ r.frm < firstOf key a ((l.drop j).take (k - j)) then r.frm else firstOf key a ((l.drop j).take (k - j)) := by
  rw [show k + 1 - j = (k - j) + 1 by omega]
  exact firstOf_snoc key a (l.drop j) (k - j) r (by rw [List.getElem?_drop, show j + (k - j) = k by omega]; exact h)

/-- Answers as values. -/
def ansV (a : Ans) : Value := .agg (ansL a).toArray

theorem firstOf_le (key : ByteArray) : ∀ (l : List Was) (a : Int), firstOf key a l ≤ a ∧ ∀ m : Int, m ≤ a → (∀ r ∈ l, m ≤ r.frm) → m ≤ firstOf key a l
  | [], a => ⟨Int.le_refl _, fun _ h _ => h⟩
  | r :: l, a => by
    have ih := firstOf_le key l (if r.key = key ∧ r.frm < a then r.frm else a)
    have e : firstOf key a (r :: l) = firstOf key (if r.key = key ∧ r.frm < a then r.frm else a) l := rfl
    rw [e]
    refine ⟨Int.le_trans ih.1 (by split <;> omega), fun m hm hr => ih.2 m ?_ (fun x hx => hr x (List.mem_cons_of_mem _ hx))⟩
    split
    · exact hr r List.mem_cons_self
    · exact hm

theorem notEmpty {x : ByteArray} (h : x ≠ Tier.empty) : x.toList.isEmpty = false := by
  have h1 : (x.toList == (⟨#[]⟩ : ByteArray).toList) = false := by rw [bytes_same]; exact decide_eq_false h
  cases hl : x.toList with
  | nil =>
    rw [hl] at h1
    have h2 : (([] : List UInt8) == (⟨#[]⟩ : ByteArray).toList) = true := by rw [Lib.toList_data]; rfl
    rw [h2] at h1
    cases h1
  | cons a r => rfl

set_option maxHeartbeats 4000000 in
theorem held_zero (s : ShopIs own w bs q c h) (hl : h.l.length ≤ 1000000000000) (hnow : 0 ≤ h.now ∧ h.now ≤ 1000000000000000) (key : ByteArray) (a : Ans) (frm : Int) (hz : a.ver = 0) :
    Calls Tryd.prog 20 #[.pointer (some ⟨bs, 0, none⟩), .string key, ansV a, .int .i64 frm] w fun e w' => e = .returned (.bool (heldB h.l key a.ver a.pres a.val h.now frm)) ∧ Turn nothing w w' := by
  obtain ⟨la, lc, hv⟩ := row_form s.hist.row
  rw [List.length_map] at hv
  have d8 : w.cell? ⟨bs, 8, none⟩ = some (.slice la h.l.length lc) := by rw [← hv]; exact cell_of_cells s.block 8
  have d6 : w.cell? ⟨bs, 6, none⟩ = some (.int .i64 h.now) := cell_of_cells s.block 6
  have HA : Hid (∀ j r, h.l[j]? = some r → ∃ b, la = some ⟨b, 0, none⟩ ∧ w.cell? ⟨b, j * 5, none⟩ = some (.string r.key) ∧ w.cell? ⟨b, j * 5 + 4, none⟩ = some (.int .i64 r.frm)) := fun j r hj => by
    obtain ⟨b, c', e, _, hb, hcell, _⟩ := s.hist.atM (fun _ => rfl) hj
    rw [hv] at e
    cases e
    exact ⟨b, rfl, hcell 0 (by omega), hcell 4 (by omega)⟩
  have hbs := s.lt
  clear s hv
  obtain ⟨node, aid, kind, ver, pres, val, age⟩ := a
  dsimp only at hz ⊢
  subst hz
  have HO : Hid (heldB h.l key 0 pres val h.now frm = (decide (pres = 0) && decide (val = Tier.empty) && decide (frm ≤ firstOf key (h.now + 1) h.l))) := by show heldB _ _ _ _ _ _ _ = _; unfold heldB; rw [if_pos rfl]
  generalize heldB h.l key 0 pres val h.now frm = R at *
  generalize h.l = l at *
  generalize h.now = now at *
  generalize hn : l.length = n at *
  unfold ansV ansL
  go_enter Tryd.func20, Tryd.ntmps20
  go_wp2
  generalize hW : World.alloc _ _ = W0
  have T0 : Turn nothing w W0 := by rw [← hW]; exact Turn.alloc _ _ _
  have x4 : W0.cell? ⟨w.heap.size, 4, none⟩ = some (.int .i64 pres) := by rw [← hW]; exact cell_of_cells (new1_0 w _) 4
  have x5 : W0.cell? ⟨w.heap.size, 5, none⟩ = some (.string val) := by rw [← hW]; exact cell_of_cells (new1_0 w _) 5
  have c8 := T0.cell d8 id
  clear hW d8 d6
  go_loopw [9, 10] (fun f i wr => ∃ j : Nat, j ≤ n ∧ i = .int .i64 (j : Int) ∧ f = .int .i64 (firstOf key (now + 1) (l.take j)) ∧ wr = W0) (fun _ i _ => n - (intOf i).toNat)
  case atStart => exact ⟨0, Nat.zero_le _, rfl, rfl, rfl⟩
  case round =>
    obtain ⟨j, jn, rfl, rfl, rfl⟩ := hrel
    by_cases hlt : j < n
    · obtain ⟨r, hr⟩ : ∃ r, l[j]? = some r := ⟨_, List.getElem?_eq_getElem (by omega)⟩
      obtain ⟨b, rfl, e0, e4⟩ := unhide HA j r hr
      have e0 := T0.cell e0 id
      have e4 := T0.cell e4 id
      have hst := firstOf_snoc key (now + 1) l j r hr
      have i0 : (0 : Int) ≤ (j : Int) := by omega
      have i1 : (j : Int) < (n : Int) := by omega
      generalize firstOf key (now + 1) (l.take j) = F at *
      by_cases hk : r.key = key
      · have hkb : (r.key.toList == key.toList) = true := by rw [bytes_same]; exact decide_eq_true hk
        by_cases hf : r.frm < F
        · rw [if_pos ⟨hk, hf⟩] at hst
          clear hk
          go_wp2
          go_roundw
          case rel => exact ⟨j + 1, by omega, by go_num, by rw [hst], trivial⟩
          case measure => simp [intOf]; omega
        · rw [if_neg (fun e => hf e.2)] at hst
          clear hk
          go_wp2
          go_roundw
          case rel => exact ⟨j + 1, by omega, by go_num, by rw [hst], trivial⟩
          case measure => simp [intOf]; omega
      · have hkb : (r.key.toList == key.toList) = false := by rw [bytes_same]; exact decide_eq_false hk
        rw [if_neg (fun e => hk e.1)] at hst
        clear hk
        go_wp2
        go_roundw
        case rel => exact ⟨j + 1, by omega, by go_num, by rw [hst], trivial⟩
        case measure => simp [intOf]; omega
    · have e : j = n := by omega
      subst e
      rw [← hn, List.take_length]
      generalize firstOf key (now + 1) l = F at *
      clear HA
      by_cases hp : pres = 0
      · subst hp
        by_cases hx : val = Tier.empty
        · subst hx
          by_cases hf : frm ≤ F
          · have e : R = true := by rw [unhide HO]; simp [hf]
            subst e
            unfold Tier.empty at x5
            clear HO
            go_wp2
            go_ret
            exact ⟨rfl, T0⟩
          · have e : R = false := by rw [unhide HO]; simp [hf]
            subst e
            unfold Tier.empty at x5
            clear HO
            go_wp2
            go_ret
            exact ⟨rfl, T0⟩
        · have e : R = false := by rw [unhide HO]; simp [hx]
          subst e
          have hvb : val.toList.isEmpty = false := notEmpty hx
          clear HO hx
          go_wp2
          go_ret
          exact ⟨rfl, T0⟩
      · have e : R = false := by rw [unhide HO]; simp [hp]
        subst e
        clear HO
        go_wp2
        go_ret
        exact ⟨rfl, T0⟩

theorem heldFrom_hit (key : ByteArray) (ver pres : Int) (val : ByteArray) (n1 frm : Int) (l : List Was) (j : Nat) (r : Was) (hr : l[j]? = some r) (h : r.key = key ∧ r.ver = ver) : heldFrom key ver pres val n1 frm (l.drop j) = (decide (r.pres = pres) && decide (r.val = val) && decide (frm ≤ firstOf key n1 (l.drop (j + 1)))) := by
  have hlt : j < l.length := (List.getElem?_eq_some_iff.1 hr).1
  rw [List.drop_eq_getElem_cons hlt, (List.getElem?_eq_some_iff.1 hr).2]
  show (if r.key = key ∧ r.ver = ver then _ else _) = _
  rw [if_pos h]
theorem heldFrom_miss (key : ByteArray) (ver pres : Int) (val : ByteArray) (n1 frm : Int) (l : List Was) (j : Nat) (r : Was) (hr : l[j]? = some r) (h : ¬ (r.key = key ∧ r.ver = ver)) : heldFrom key ver pres val n1 frm (l.drop j) = heldFrom key ver pres val n1 frm (l.drop (j + 1)) := by
  have hlt : j < l.length := (List.getElem?_eq_some_iff.1 hr).1
  rw [List.drop_eq_getElem_cons hlt, (List.getElem?_eq_some_iff.1 hr).2]
  show (if r.key = key ∧ r.ver = ver then _ else _) = _
  rw [if_neg h]

set_option maxHeartbeats 8000000 in
theorem held_some (s : ShopIs own w bs q c h) (hl : h.l.length ≤ 1000000000000) (hnow : 0 ≤ h.now ∧ h.now ≤ 1000000000000000) (key : ByteArray) (a : Ans) (frm : Int) (hz : ¬ a.ver = 0) :
    Calls Tryd.prog 20 #[.pointer (some ⟨bs, 0, none⟩), .string key, ansV a, .int .i64 frm] w fun e w' => e = .returned (.bool (heldB h.l key a.ver a.pres a.val h.now frm)) ∧ Turn nothing w w' := by
  obtain ⟨la, lc, hv⟩ := row_form s.hist.row
  rw [List.length_map] at hv
  have d8 : w.cell? ⟨bs, 8, none⟩ = some (.slice la h.l.length lc) := by rw [← hv]; exact cell_of_cells s.block 8
  have d6 : w.cell? ⟨bs, 6, none⟩ = some (.int .i64 h.now) := cell_of_cells s.block 6
  have HA : Hid (∀ j r, h.l[j]? = some r → ∃ b, la = some ⟨b, 0, none⟩ ∧ w.cell? ⟨b, j * 5, none⟩ = some (.string r.key) ∧ w.cell? ⟨b, j * 5 + 1, none⟩ = some (.int .i64 r.ver) ∧ w.cell? ⟨b, j * 5 + 2, none⟩ = some (.int .i64 r.pres) ∧ w.cell? ⟨b, j * 5 + 3, none⟩ = some (.string r.val) ∧ w.cell? ⟨b, j * 5 + 4, none⟩ = some (.int .i64 r.frm) ∧ b < w.heap.size) := fun j r hj => by
    obtain ⟨b, c', e, _, hb, hcell, _⟩ := s.hist.atM (fun _ => rfl) hj
    rw [hv] at e
    cases e
    exact ⟨b, rfl, hcell 0 (by omega), hcell 1 (by omega), hcell 2 (by omega), hcell 3 (by omega), hcell 4 (by omega), hb⟩
  have hbs := s.lt
  clear s hv
  obtain ⟨node, aid, kind, ver, pres, val, age⟩ := a
  dsimp only at hz ⊢
  have HO : Hid (heldB h.l key ver pres val h.now frm = heldFrom key ver pres val (h.now + 1) frm h.l) := by show heldB _ _ _ _ _ _ _ = _; unfold heldB; rw [if_neg hz]
  generalize heldB h.l key ver pres val h.now frm = R at *
  generalize h.l = l at *
  generalize h.now = now at *
  generalize hn : l.length = n at *
  unfold ansV ansL
  go_enter Tryd.func20, Tryd.ntmps20
  go_wp2
  generalize hW : World.alloc _ _ = W0
  have T0 : Turn nothing w W0 := by rw [← hW]; exact Turn.alloc _ _ _
  have hsz : W0.heap.size = w.heap.size + 1 := by rw [← hW]; simp
  have x3 : W0.cell? ⟨w.heap.size, 3, none⟩ = some (.int .i64 ver) := by rw [← hW]; exact cell_of_cells (new1_0 w _) 3
  have x4 : W0.cell? ⟨w.heap.size, 4, none⟩ = some (.int .i64 pres) := by rw [← hW]; exact cell_of_cells (new1_0 w _) 4
  have x5 : W0.cell? ⟨w.heap.size, 5, none⟩ = some (.string val) := by rw [← hW]; exact cell_of_cells (new1_0 w _) 5
  have HX : Hid (∀ w', Turn nothing W0 w' → w'.cell? ⟨bs, 8, none⟩ = some (.slice la n lc) ∧ w'.cell? ⟨bs, 6, none⟩ = some (.int .i64 now) ∧ w'.cell? ⟨w.heap.size, 3, none⟩ = some (.int .i64 ver) ∧ w'.cell? ⟨w.heap.size, 4, none⟩ = some (.int .i64 pres) ∧ w'.cell? ⟨w.heap.size, 5, none⟩ = some (.string val) ∧ w.heap.size < w'.heap.size) :=
    fun w' T => ⟨T.cell (T0.cell d8 id) id, T.cell (T0.cell d6 id) id, T.cell x3 id, T.cell x4 id, T.cell x5 id, by have := T.size; omega⟩
  clear hW d8 d6 x3 x4 x5
  go_loopw [11, 12] (fun i _ wr => ∃ j : Nat, j ≤ n ∧ i = .int .i64 (j : Int) ∧ Hid (Turn nothing W0 wr) ∧ Hid (R = heldFrom key ver pres val (now + 1) frm (l.drop j))) (fun i _ _ => n - (intOf i).toNat)
  case atStart => exact ⟨0, Nat.zero_le _, rfl, Turn.refl _ _, by show R = _; rw [unhide HO]; rfl⟩
  case round =>
    obtain ⟨j, jn, rfl, HT, HR⟩ := hrel
    obtain ⟨c8, c6, c3, c4, c5, hwz⟩ := unhide HX wr (unhide HT)
    have hbw : bs < wr.heap.size := Nat.lt_trans hbs hwz
    by_cases hlt : j < n
    · obtain ⟨r, hr⟩ : ∃ r, l[j]? = some r := ⟨_, List.getElem?_eq_getElem (by omega)⟩
      obtain ⟨b, rfl, e0, e1, e2, e3, e4, hb⟩ := unhide HA j r hr
      have TT := T0.step_turn (unhide HT) (fun _ _ h => h)
      have e0 := TT.cell e0 id
      have e1 := TT.cell e1 id
      have e2 := TT.cell e2 id
      have e3 := TT.cell e3 id
      have e4 := TT.cell e4 id
      clear TT
      have i0 : (0 : Int) ≤ (j : Int) := by omega
      have i1 : (j : Int) < (n : Int) := by omega
      by_cases hit : r.key = key ∧ r.ver = ver
      · have HR' := hide ((unhide HR).trans (heldFrom_hit key ver pres val (now + 1) frm l j r hr hit))
        have hkb : (r.key.toList == key.toList) = true := by rw [bytes_same]; exact decide_eq_true hit.1
        have hvv : r.ver = ver := hit.2
        clear HR hit
        go_wp2
        generalize hW2 : World.alloc _ _ = W2
        have T2 : Turn nothing wr W2 := by rw [← hW2]; exact Turn.alloc _ _ _
        have y2 : W2.cell? ⟨wr.heap.size, 2, none⟩ = some (.int .i64 r.pres) := by rw [← hW2]; exact cell_of_cells (new1_0 wr _) 2
        have y3 : W2.cell? ⟨wr.heap.size, 3, none⟩ = some (.string r.val) := by rw [← hW2]; exact cell_of_cells (new1_0 wr _) 3
        have HT2 := hide ((unhide HT).step_turn T2 (fun _ _ h => h))
        obtain ⟨f8, f6, f3, f4, f5, _⟩ := unhide HX W2 (unhide HT2)
        clear hW2
        go_loopw [13, 14] (fun f i w3 => ∃ k : Nat, j + 1 ≤ k ∧ k ≤ n ∧ i = .int .i64 (k : Int) ∧ f = .int .i64 (firstOf key (now + 1) ((l.drop (j + 1)).take (k - (j + 1)))) ∧ w3 = W2) (fun _ i _ => n - (intOf i).toNat)
        case atStart => exact ⟨j + 1, Nat.le_refl _, by omega, by go_num, by rw [Nat.sub_self]; rfl, rfl⟩
        case round =>
          obtain ⟨k, kj, kn, rfl, rfl, rfl⟩ := hrel
          by_cases hkn : k < n
          · obtain ⟨r', hr'⟩ : ∃ r, l[k]? = some r := ⟨_, List.getElem?_eq_getElem (by omega)⟩
            obtain ⟨b', eb, g0, _, _, _, g4, _⟩ := unhide HA k r' hr'
            cases eb
            have TT := T0.step_turn (unhide HT2) (fun _ _ h => h)
            have g0 := TT.cell g0 id
            have g4 := TT.cell g4 id
            clear TT
            have hst := firstOf_cons key (now + 1) l (j + 1) k r' kj hr'
            have k0 : (0 : Int) ≤ (k : Int) := by omega
            have k1 : (k : Int) < (n : Int) := by omega
            generalize firstOf key (now + 1) ((l.drop (j + 1)).take (k - (j + 1))) = F at *
            by_cases hk : r'.key = key
            · have hkb' : (r'.key.toList == key.toList) = true := by rw [bytes_same]; exact decide_eq_true hk
              by_cases hf : r'.frm < F
              · rw [if_pos ⟨hk, hf⟩] at hst
                clear hk
                go_wp2
                go_roundw
                case rel => exact ⟨k + 1, by omega, by omega, by go_num, by rw [hst], trivial⟩
                case measure => simp [intOf]; omega
              · rw [if_neg (fun e => hf e.2)] at hst
                clear hk
                go_wp2
                go_roundw
                case rel => exact ⟨k + 1, by omega, by omega, by go_num, by rw [hst], trivial⟩
                case measure => simp [intOf]; omega
            · have hkb' : (r'.key.toList == key.toList) = false := by rw [bytes_same]; exact decide_eq_false hk
              rw [if_neg (fun e => hk e.1)] at hst
              clear hk
              go_wp2
              go_roundw
              case rel => exact ⟨k + 1, by omega, by omega, by go_num, by rw [hst], trivial⟩
              case measure => simp [intOf]; omega
          · have e : k = n := by omega
            subst e
            have hfull : (l.drop (j + 1)).take (k - (j + 1)) = l.drop (j + 1) := List.take_of_length_le (by rw [List.length_drop]; omega)
            rw [hfull]
            generalize firstOf key (now + 1) (l.drop (j + 1)) = F at *
            have TE := hide (T0.step_turn (unhide HT2) (fun _ _ h => h))
            clear HA HX
            by_cases hp : r.pres = pres
            · by_cases hx : r.val = val
              · have hvb : (r.val.toList == val.toList) = true := by rw [bytes_same]; exact decide_eq_true hx
                by_cases hf : frm ≤ F
                · have e : R = true := by rw [unhide HR']; simp [hp, hx, hf]
                  subst e
                  clear HR' hx
                  go_wp2
                  go_ret
                  exact ⟨rfl, unhide TE⟩
                · have e : R = false := by rw [unhide HR']; simp [hf]
                  subst e
                  clear HR' hx
                  go_wp2
                  go_ret
                  exact ⟨rfl, unhide TE⟩
              · have hvb : (r.val.toList == val.toList) = false := by rw [bytes_same]; exact decide_eq_false hx
                have e : R = false := by rw [unhide HR']; simp [hx]
                subst e
                clear HR' hx
                go_wp2
                go_ret
                exact ⟨rfl, unhide TE⟩
            · have e : R = false := by rw [unhide HR']; simp [hp]
              subst e
              clear HR'
              go_wp2
              go_ret
              exact ⟨rfl, unhide TE⟩
      · have HR' := hide ((unhide HR).trans (heldFrom_miss key ver pres val (now + 1) frm l j r hr hit))
        by_cases hk : r.key = key
        · have hkb : (r.key.toList == key.toList) = true := by rw [bytes_same]; exact decide_eq_true hk
          have hvv : ¬ r.ver = ver := fun e => hit ⟨hk, e⟩
          clear HR hit hk
          go_wp2
          go_roundw
          case rel => exact ⟨j + 1, by omega, by go_num, (unhide HT).step_turn (Turn.alloc _ _ _) (fun _ _ h => h), HR'⟩
          case measure => simp [intOf]; omega
        · have hkb : (r.key.toList == key.toList) = false := by rw [bytes_same]; exact decide_eq_false hk
          clear HR hit hk
          go_wp2
          go_roundw
          case rel => exact ⟨j + 1, by omega, by go_num, (unhide HT).step_turn (Turn.alloc _ _ _) (fun _ _ h => h), HR'⟩
          case measure => simp [intOf]; omega
    · have e : R = false := by rw [unhide HR, List.drop_of_length_le (by omega)]; rfl
      subst e
      have TE := hide (T0.step_turn (unhide HT) (fun _ _ h => h))
      clear HR
      go_wp2
      go_ret
      exact ⟨rfl, unhide TE⟩

theorem held_any (s : ShopIs own w bs q c h) (hl : h.l.length ≤ 1000000000000) (hnow : 0 ≤ h.now ∧ h.now ≤ 1000000000000000) (key : ByteArray) (a : Ans) (frm : Int) :
    Calls Tryd.prog 20 #[.pointer (some ⟨bs, 0, none⟩), .string key, ansV a, .int .i64 frm] w fun e w' => e = .returned (.bool (heldB h.l key a.ver a.pres a.val h.now frm)) ∧ Turn nothing w w' := by
  by_cases hz : a.ver = 0
  · exact held_zero s hl hnow key a frm hz
  · exact held_some s hl hnow key a frm hz

end Go.Proofs.YtpdkojgepagbnaaDoor
