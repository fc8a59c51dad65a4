/-
  A right configuration out of a raw one: as plain data.
  A tier is made: the call.
  What holds of a script's play at all times, as plain data: kept by each step.
  Time goes by; answers are given: what holds of a script's play is kept.
-/
import Derived.Test.YtpdkojgepagbnaaDoorJ29
import Derived.Test.YtpdkojgepagbnaaDoorJ03
import Derived.Test.YtpdkojgepagbnaaDoorJ26
namespace Go.Proofs.YtpdkojgepagbnaaDoor
open Tier (Mes Ans Conf St Was)

/-- Each cache's parent is a node ahead of it. -/
def parF : List Int → List Int → List Int
  | acc, [] => acc
  | acc, z :: r => if acc.length < 6 then parF (acc ++ [pickN z acc.length]) r else acc
def confD (zs : List Int) (dr bu en wa : Int) : Conf := ⟨parF [-1, 0] zs, pickN dr 500001, 1 + pickN bu 1000000, 1 + pickN en 4, 1 + pickN wa 4⟩

structure ParOK (acc : List Int) : Prop where
  len : 2 ≤ acc.length ∧ acc.length ≤ 6
  head : acc.getD 0 0 = -1
  up : ∀ n : Nat, 0 < n → n < acc.length → 0 ≤ acc.getD n 0 ∧ acc.getD n 0 < n

theorem ParOK.start : ParOK [-1, 0] := ⟨by decide, rfl, fun n h0 h1 => by
  have h1 : n < 2 := h1
  have : n = 1 := by omega
  subst this
  decide⟩
theorem getD_snoc {l : List Int} {x : Int} {n : Nat} : (l ++ [x]).getD n 0 = if n < l.length then l.getD n 0 else if n = l.length then x else 0 := by
  rw [List.getD_eq_getElem?_getD, List.getD_eq_getElem?_getD]
  split
  · next h => rw [List.getElem?_append_left h]
  · next h =>
    rw [List.getElem?_append_right (by omega)]
    split
    · next e => subst e; simp
    · next e =>
      rw [List.getElem?_eq_none (by simp; omega)]
      rfl
theorem ParOK.snoc {acc : List Int} (h : ParOK acc) (hl : acc.length < 6) (z : Int) : ParOK (acc ++ [pickN z acc.length]) := by
  have h2 := h.len
  have hp := pickN_ok z (n := (acc.length : Int)) (by omega)
  refine ⟨by rw [List.length_append]; show 2 ≤ acc.length + 1 ∧ acc.length + 1 ≤ 6; omega, ?_, fun n h0 h1 => ?_⟩
  · rw [getD_snoc, if_pos (by omega)]; exact h.head
  · rw [List.length_append] at h1
    have h1 : n < acc.length + 1 := h1
    rw [getD_snoc]
    split
    · next hn => exact h.up n h0 hn
    · rw [if_pos (by omega)]; omega
theorem ParOK.all : ∀ (zs acc : List Int), ParOK acc → ParOK (parF acc zs)
  | [], _, h => h
  | z :: r, acc, h => by
    unfold parF
    split
    · next hl => exact ParOK.all r _ (h.snoc hl z)
    · exact h

theorem confD_right (zs : List Int) (dr bu en wa : Int) : confB (confD zs dr bu en wa).parents (confD zs dr bu en wa).drift (confD zs dr bu en wa).budget (confD zs dr bu en wa).entries (confD zs dr bu en wa).waiters = true := by
  have hp := ParOK.all zs _ ParOK.start
  have h1 := pickN_ok dr (n := 500001) (by decide)
  have h2 := pickN_ok bu (n := 1000000) (by decide)
  have h3 := pickN_ok en (n := 4) (by decide)
  have h4 := pickN_ok wa (n := 4) (by decide)
  exact confB_down hp.len hp.head hp.up (by show 0 ≤ pickN dr 500001 ∧ pickN dr 500001 ≤ 500000; omega) (by show 1 ≤ 1 + pickN bu 1000000 ∧ 1 + pickN bu 1000000 ≤ 1000000; omega) (by show 1 ≤ 1 + pickN en 4 ∧ 1 + pickN en 4 ≤ 4; omega) (by show 1 ≤ 1 + pickN wa 4 ∧ 1 + pickN wa 4 ≤ 4; omega)

end Go.Proofs.YtpdkojgepagbnaaDoor

namespace Go.Proofs.YtpdkojgepagbnaaDoor
set_option maxRecDepth 100000
open Go.RowKit
open Tier (Mes Ans Conf St)
attribute [local go_sem ↓] Go.wp_at_zero Go.wp_at_succ

theorem Turn.of_below' {w w' : World} (h : Below w.heap.size w w') : Turn nothing w w' := ⟨h.os, h.tape, h.output, h.size, fun k hk _ => h.block k hk⟩

set_option maxHeartbeats 4000000 in
theorem New_ok (own : Own) (τ : Nat) (v : Value) (zs : List Int) (dr bu en wa : Int) (w : World) (h : w.ownsRow 0 3 1 v zs.length (zs.map fun z => .int .i64 z)) (hc : confB zs dr bu en wa = true) (htop : ∀ k, w.heap.size ≤ k → own k = none) :
    Calls Tryd.prog 40 #[.agg #[v, .int .i64 dr, .int .i64 bu, .int .i64 en, .int .i64 wa]] w fun r w' => ∃ bt own', r = .returned (.tuple #[.pointer (some ⟨bt, 0, none⟩), .int .i64 0]) ∧ Turn nothing w w' ∧ w.heap.size ≤ bt ∧ TierAt own' τ w' bt 0 (Tier.new ⟨zs, dr, bu, en, wa⟩) ∧ (∀ k, k < w.heap.size → own' k = own k) ∧ ∀ k, w.heap.size ≤ k → own' k ≠ none → Mine own' τ k := by
  have hok := confB_parts hc
  have HOK := hide hok
  have HTOP := hide htop
  have hz6 : zs.length ≤ 6 := hok.len.2
  have hz2 : 2 ≤ zs.length := hok.len.1
  obtain ⟨a, cp, hv⟩ := row_form h
  have HR := hide h
  subst hv
  have KR := hide (fun w' (h' : w'.ownsRow 0 3 1 (.slice a zs.length cp) zs.length (zs.map fun z => .int .i64 z)) => right_any a cp zs dr bu en wa w' (by unfold maxLen; omega) (sliceAt_owns h' rfl))
  rw [hc] at KR
  have KC := hide (fun w' (h' : w'.ownsRow 0 3 1 (.slice a zs.length cp) zs.length (zs.map fun z => .int .i64 z)) => Copy_any (.slice a zs.length cp) zs dr bu en wa w' h' (by omega))
  have KO := hide (fun w' => ONew_any w')
  have KE := hide (fun w' => ENew_any en w')
  have hmk := run_makeMap3
  have e1 : errOf true = 0 := rfl
  rw [e1] at KR
  clear h hok htop hc e1
  go_enter Tryd.func40, Tryd.ntmps40
  go_wp2_with fail
  generalize hW : World.alloc _ _ = W0
  have T0 : Turn nothing w W0 := by rw [← hW]; exact Turn.alloc _ _ _
  have b0 : ∃ ty, W0.heap[w.heap.size]? = some (.cells #[.slice a zs.length cp, .int .i64 dr, .int .i64 bu, .int .i64 en, .int .i64 wa] ty (0, 0)) := by rw [← hW]; exact ⟨_, new1_0 _ _⟩
  clear hW
  refine (unhide KR W0 (owns_turn (unhide HR) T0 (fun _ _ h => h))).mono ?_
  rintro e w1 ⟨rfl, B1⟩
  have T1 := Turn.of_below' B1
  obtain ⟨ty, b0⟩ := b0
  have x0 := T1.cell (cell_of_cells b0 0) id
  have x1 : w1.cell? ⟨w.heap.size, 1, none⟩ = some (.int .i64 dr) := T1.cell (cell_of_cells b0 1) id
  have x2 : w1.cell? ⟨w.heap.size, 2, none⟩ = some (.int .i64 bu) := T1.cell (cell_of_cells b0 2) id
  have x3 : w1.cell? ⟨w.heap.size, 3, none⟩ = some (.int .i64 en) := T1.cell (cell_of_cells b0 3) id
  have x4 : w1.cell? ⟨w.heap.size, 4, none⟩ = some (.int .i64 wa) := T1.cell (cell_of_cells b0 4) id
  have x0 : w1.cell? ⟨w.heap.size, 0, none⟩ = some (.slice a zs.length cp) := x0
  have T01 := T0.step_turn T1 (fun _ _ h => h)
  have HR1 := hide (owns_turn (unhide HR) T01 (fun _ _ h => h))
  have HT01 := hide T01
  have hlt1 : w.heap.size < w1.heap.size := cell_lt x0
  clear B1 T1 b0 T0 T01 KR
  go_wp2
  have HS : ∀ w', Turn nothing w1 w' → Turn nothing w1 w' ∧ w'.cell? ⟨w.heap.size, 0, none⟩ = some (.slice a zs.length cp) ∧ w'.cell? ⟨w.heap.size, 1, none⟩ = some (.int .i64 dr) ∧ w'.cell? ⟨w.heap.size, 2, none⟩ = some (.int .i64 bu) ∧ w'.cell? ⟨w.heap.size, 3, none⟩ = some (.int .i64 en) ∧ w'.cell? ⟨w.heap.size, 4, none⟩ = some (.int .i64 wa) := fun w' T => ⟨T, T.cell x0 id, T.cell x1 id, T.cell x2 id, T.cell x3 id, T.cell x4 id⟩
  go_region_held3 (fun w' => Turn nothing w1 w' ∧ w'.cell? ⟨w.heap.size, 0, none⟩ = some (.slice a zs.length cp) ∧ w'.cell? ⟨w.heap.size, 1, none⟩ = some (.int .i64 dr) ∧ w'.cell? ⟨w.heap.size, 2, none⟩ = some (.int .i64 bu) ∧ w'.cell? ⟨w.heap.size, 3, none⟩ = some (.int .i64 en) ∧ w'.cell? ⟨w.heap.size, 4, none⟩ = some (.int .i64 wa)) ((go_split_ands; apply HS; all_goals (repeat (first | with_reducible assumption | with_reducible exact Turn.refl _ _ | with_reducible apply Turn.step_alloc | with_reducible apply Turn.step_drew | ((with_reducible refine Turn.step_turn (N := nothing) ?_ (by assumption) ?_); rotate_left; · exact fun _ _ h => False.elim h) | ((with_reducible refine Turn.step_set ?_ ?_); rotate_left; · first | exact Or.inr rfl | exact Or.inr (Or.inl rfl) | exact Or.inl (by simp <;> omega)) | ((with_reducible refine Turn.step_turn ?_ (Turn.grown (by assumption)) ?_); rotate_left; · exact fun _ _ h => Or.inr h) | with_reducible apply There.drew | with_reducible apply There.set | ((with_reducible refine There.turn ?_ (by assumption) ?_); rotate_left; · exact id) | assumption)))) (first | (go_at_call 70; go_split_ands; refine (unhide KC _ (owns_turn (unhide HR1) (by assumption) (fun _ _ h => h))).mono ?_; rintro e w7 ⟨pv, rfl, T7, R7⟩; obtain ⟨pa, pc, hpv⟩ := row_form R7; subst hpv) | (go_at_call 71; go_split_ands; refine (unhide KO _).mono ?_; rintro e w8 ⟨bo, bm, rfl, T8, D8, O8, M8⟩) | (go_at_call 72; go_split_ands; refine (unhide KE _).mono ?_; rintro e w9 ⟨be, bf, rfl, T9, D9, O9, M9⟩))
  all_goals go_split_ands
  all_goals clear HS KC KO KE
  · have l7 := R7.lt
    obtain ⟨gp, hgp⟩ : ∃ gp, (Value.slice pa zs.length pc).ownBlock = some gp := by
      obtain ⟨_, ⟨_, h0⟩ | ⟨g, cap, cur, hv, _⟩⟩ := R7
      · omega
      · cases hv; exact ⟨_, rfl⟩
    have lg := l7 gp hgp
    have z01 := (unhide HT01).size
    have za := fun (W : World) => show (W.alloc (.map #[] 0)).heap.size = W.heap.size + 1 by simp
    have zb := fun (W : World) => show (W.alloc (.map #[] 0)).drew.heap.size = W.heap.size + 1 by show (W.alloc (.map #[] 0)).heap.size = _; simp
    have zc := fun (W : World) => show W.drew.heap.size = W.heap.size from rfl
    have ha1 := za w1
    have ha7 := za w7
    have ha8 := za w8
    have ha9 := za w9
    have hb1 := zb w1
    have hc1 := zc w1
    have z7 := T7.size
    have z8 := T8.size
    have z9 := T9.size
    have y8 := heap_lt O8
    have y8' := M8.lt
    have y9 := heap_lt O9
    have y9' := M9.lt
    clear za zb zc l7
    go_wp2
    refine bodyPost_ret (v := .tuple #[.pointer (some ⟨w9.heap.size + 1, 0, none⟩), .int .i64 0]) (by simp [results, Tryd.results40, go_sem]) rfl ?_
    generalize hF : World.alloc _ _ = F
    have TF9 : Turn nothing w9 F := by rw [← hF]; exact (Turn.alloc nothing w9 (.map #[] 0)).step_alloc
    have TF8 := T9.step_turn TF9 (fun _ _ h => h)
    have TF7 := T8.step_turn TF8 (fun _ _ h => h)
    have TF := (unhide HT01).step_turn ((Turn.drew nothing w1).step_turn (T7.step_turn TF7 (fun _ _ h => h)) (fun _ _ h => h)) (fun _ _ h => h)
    have MQ : MapIs Tryd.prog 100 F w9.heap.size [] := by rw [← hF]; exact (MapIs.made Tryd.prog 100 w9).heap ((Turn.alloc nothing (w9.alloc (.map #[] 0)) _).block _ (by simp) id)
    have HBT : F.heap[w9.heap.size + 1]? = some (.cells #[.slice pa zs.length pc, .int .i64 dr, .int .i64 bu, .int .i64 en, .int .i64 wa, .pointer (some ⟨bo, 0, none⟩), .int .i64 0, .int .i64 0, .int .i64 0, .int .i64 0, .int .i64 0, .int .i64 0, .pointer (some ⟨be, 0, none⟩), .map (some w9.heap.size), .int .i64 0, .slice none 0 0, .slice none 0 0] 97 (0, 0)) := by rw [← hF]; exact new2_1 _ _ _
    obtain ⟨own', A, B, C⟩ := tier_made (own := own) (τ := τ) (w0 := w) (c := ⟨zs, dr, bu, en, wa⟩) (unhide HOK) (unhide HTOP) TF.size (owns_base (owns_turn R7 TF7 (fun _ _ h => h)) (by omega)) hgp ((TF8.block _ y8 id).trans O8) (M8.heap (TF8.block _ y8' id)) ((TF9.block _ y9 id).trans O9) (M9.heap (TF9.block _ y9' id)) MQ HBT
      (by simp only [List.nodup_cons, List.mem_cons, List.not_mem_nil, or_false, not_or, List.nodup_nil, and_true, not_false_eq_true]; refine ⟨⟨?_, ?_, ?_, ?_, ?_, ?_⟩, ⟨?_, ?_, ?_, ?_, ?_⟩, ⟨?_, ?_, ?_, ?_⟩, ⟨?_, ?_, ?_⟩, ⟨?_, ?_⟩, ?_⟩ <;> omega) (by omega) (by omega) (by omega) (by omega) (by omega) (by omega)
    exact ⟨_, own', rfl, TF, by omega, A, B, C⟩
  · have l7 := R7.lt
    obtain ⟨gp, hgp⟩ : ∃ gp, (Value.slice pa zs.length pc).ownBlock = some gp := by
      obtain ⟨_, ⟨_, h0⟩ | ⟨g, cap, cur, hv, _⟩⟩ := R7
      · omega
      · cases hv; exact ⟨_, rfl⟩
    have lg := l7 gp hgp
    have z01 := (unhide HT01).size
    have za := fun (W : World) => show (W.alloc (.map #[] 0)).heap.size = W.heap.size + 1 by simp
    have zb := fun (W : World) => show (W.alloc (.map #[] 0)).drew.heap.size = W.heap.size + 1 by show (W.alloc (.map #[] 0)).heap.size = _; simp
    have zc := fun (W : World) => show W.drew.heap.size = W.heap.size from rfl
    have ha1 := za w1
    have ha7 := za w7
    have ha8 := za w8
    have ha9 := za w9
    have hb1 := zb w1
    have hc1 := zc w1
    have z7 := T7.size
    have z8 := T8.size
    have z9 := T9.size
    have y8 := heap_lt O8
    have y8' := M8.lt
    have y9 := heap_lt O9
    have y9' := M9.lt
    clear za zb zc l7
    go_wp2
    refine bodyPost_ret (v := .tuple #[.pointer (some ⟨w9.heap.size, 0, none⟩), .int .i64 0]) (by simp [results, Tryd.results40, go_sem]) rfl ?_
    generalize hF : World.alloc _ _ = F
    have TF9 : Turn nothing w9 F := by rw [← hF]; exact Turn.alloc nothing w9 _
    have TFM := T9.step_turn TF9 (fun _ _ h => h)
    have TF8 := (Turn.alloc nothing w8 (.map #[] 0)).step_turn TFM (fun _ _ h => h)
    have TF7 := T8.step_turn TF8 (fun _ _ h => h)
    have TF := (unhide HT01).step_turn ((Turn.drew nothing w1).step_turn (T7.step_turn TF7 (fun _ _ h => h)) (fun _ _ h => h)) (fun _ _ h => h)
    have MQ := (MapIs.made Tryd.prog 100 w8).heap (TFM.block _ (by simp) id)
    have HBT : F.heap[w9.heap.size]? = some (.cells #[.slice pa zs.length pc, .int .i64 dr, .int .i64 bu, .int .i64 en, .int .i64 wa, .pointer (some ⟨bo, 0, none⟩), .int .i64 0, .int .i64 0, .int .i64 0, .int .i64 0, .int .i64 0, .int .i64 0, .pointer (some ⟨be, 0, none⟩), .map (some w8.heap.size), .int .i64 0, .slice none 0 0, .slice none 0 0] 97 (0, 0)) := by rw [← hF]; exact new1_0 _ _
    obtain ⟨own', A, B, C⟩ := tier_made (own := own) (τ := τ) (w0 := w) (c := ⟨zs, dr, bu, en, wa⟩) (unhide HOK) (unhide HTOP) TF.size (owns_base (owns_turn R7 TF7 (fun _ _ h => h)) (by omega)) hgp ((TF8.block _ y8 id).trans O8) (M8.heap (TF8.block _ y8' id)) ((TF9.block _ y9 id).trans O9) (M9.heap (TF9.block _ y9' id)) MQ HBT
      (by simp only [List.nodup_cons, List.mem_cons, List.not_mem_nil, or_false, not_or, List.nodup_nil, and_true, not_false_eq_true]; refine ⟨⟨?_, ?_, ?_, ?_, ?_, ?_⟩, ⟨?_, ?_, ?_, ?_, ?_⟩, ⟨?_, ?_, ?_, ?_⟩, ⟨?_, ?_, ?_⟩, ⟨?_, ?_⟩, ?_⟩ <;> omega) (by omega) (by omega) (by omega) (by omega) (by omega) (by omega)
    exact ⟨_, own', rfl, TF, by omega, A, B, C⟩
  · have l7 := R7.lt
    obtain ⟨gp, hgp⟩ : ∃ gp, (Value.slice pa zs.length pc).ownBlock = some gp := by
      obtain ⟨_, ⟨_, h0⟩ | ⟨g, cap, cur, hv, _⟩⟩ := R7
      · omega
      · cases hv; exact ⟨_, rfl⟩
    have lg := l7 gp hgp
    have z01 := (unhide HT01).size
    have za := fun (W : World) => show (W.alloc (.map #[] 0)).heap.size = W.heap.size + 1 by simp
    have zb := fun (W : World) => show (W.alloc (.map #[] 0)).drew.heap.size = W.heap.size + 1 by show (W.alloc (.map #[] 0)).heap.size = _; simp
    have zc := fun (W : World) => show W.drew.heap.size = W.heap.size from rfl
    have ha1 := za w1
    have ha7 := za w7
    have ha8 := za w8
    have ha9 := za w9
    have hb1 := zb w1
    have hc1 := zc w1
    have z7 := T7.size
    have z8 := T8.size
    have z9 := T9.size
    have y8 := heap_lt O8
    have y8' := M8.lt
    have y9 := heap_lt O9
    have y9' := M9.lt
    clear za zb zc l7
    go_wp2
    refine bodyPost_ret (v := .tuple #[.pointer (some ⟨w9.heap.size, 0, none⟩), .int .i64 0]) (by simp [results, Tryd.results40, go_sem]) rfl ?_
    generalize hF : World.alloc _ _ = F
    have TF9 : Turn nothing w9 F := by rw [← hF]; exact Turn.alloc nothing w9 _
    have TF8 := T9.step_turn TF9 (fun _ _ h => h)
    have TFM := T8.step_turn TF8 (fun _ _ h => h)
    have TF7 := (Turn.alloc nothing w7 (.map #[] 0)).step_turn TFM (fun _ _ h => h)
    have TF := (unhide HT01).step_turn ((Turn.drew nothing w1).step_turn (T7.step_turn TF7 (fun _ _ h => h)) (fun _ _ h => h)) (fun _ _ h => h)
    have MQ := (MapIs.made Tryd.prog 100 w7).heap (TFM.block _ (by simp) id)
    have HBT : F.heap[w9.heap.size]? = some (.cells #[.slice pa zs.length pc, .int .i64 dr, .int .i64 bu, .int .i64 en, .int .i64 wa, .pointer (some ⟨bo, 0, none⟩), .int .i64 0, .int .i64 0, .int .i64 0, .int .i64 0, .int .i64 0, .int .i64 0, .pointer (some ⟨be, 0, none⟩), .map (some w7.heap.size), .int .i64 0, .slice none 0 0, .slice none 0 0] 97 (0, 0)) := by rw [← hF]; exact new1_0 _ _
    obtain ⟨own', A, B, C⟩ := tier_made (own := own) (τ := τ) (w0 := w) (c := ⟨zs, dr, bu, en, wa⟩) (unhide HOK) (unhide HTOP) TF.size (owns_base (owns_turn R7 TF7 (fun _ _ h => h)) (by omega)) hgp ((TF8.block _ y8 id).trans O8) (M8.heap (TF8.block _ y8' id)) ((TF9.block _ y9 id).trans O9) (M9.heap (TF9.block _ y9' id)) MQ HBT
      (by simp only [List.nodup_cons, List.mem_cons, List.not_mem_nil, or_false, not_or, List.nodup_nil, and_true, not_false_eq_true]; refine ⟨⟨?_, ?_, ?_, ?_, ?_, ?_⟩, ⟨?_, ?_, ?_, ?_, ?_⟩, ⟨?_, ?_, ?_, ?_⟩, ⟨?_, ?_, ?_⟩, ⟨?_, ?_⟩, ?_⟩ <;> omega) (by omega) (by omega) (by omega) (by omega) (by omega) (by omega)
    exact ⟨_, own', rfl, TF, by omega, A, B, C⟩
  · have l7 := R7.lt
    obtain ⟨gp, hgp⟩ : ∃ gp, (Value.slice pa zs.length pc).ownBlock = some gp := by
      obtain ⟨_, ⟨_, h0⟩ | ⟨g, cap, cur, hv, _⟩⟩ := R7
      · omega
      · cases hv; exact ⟨_, rfl⟩
    have lg := l7 gp hgp
    have z01 := (unhide HT01).size
    have za := fun (W : World) => show (W.alloc (.map #[] 0)).heap.size = W.heap.size + 1 by simp
    have zb := fun (W : World) => show (W.alloc (.map #[] 0)).drew.heap.size = W.heap.size + 1 by show (W.alloc (.map #[] 0)).heap.size = _; simp
    have zc := fun (W : World) => show W.drew.heap.size = W.heap.size from rfl
    have ha1 := za w1
    have ha7 := za w7
    have ha8 := za w8
    have ha9 := za w9
    have hb1 := zb w1
    have hc1 := zc w1
    have z7 := T7.size
    have z8 := T8.size
    have z9 := T9.size
    have y8 := heap_lt O8
    have y8' := M8.lt
    have y9 := heap_lt O9
    have y9' := M9.lt
    clear za zb zc l7
    go_wp2
    refine bodyPost_ret (v := .tuple #[.pointer (some ⟨w9.heap.size, 0, none⟩), .int .i64 0]) (by simp [results, Tryd.results40, go_sem]) rfl ?_
    generalize hF : World.alloc _ _ = F
    have TF9 : Turn nothing w9 F := by rw [← hF]; exact Turn.alloc nothing w9 _
    have TF8 := T9.step_turn TF9 (fun _ _ h => h)
    have TF7 := T8.step_turn TF8 (fun _ _ h => h)
    have TFM := (Turn.drew nothing (w1.alloc (.map #[] 0))).step_turn (T7.step_turn TF7 (fun _ _ h => h)) (fun _ _ h => h)
    have TF := (unhide HT01).step_turn ((Turn.alloc nothing w1 (.map #[] 0)).step_turn TFM (fun _ _ h => h)) (fun _ _ h => h)
    have MQ := (MapIs.made Tryd.prog 100 w1).heap (TFM.block _ (by simp) id)
    have HBT : F.heap[w9.heap.size]? = some (.cells #[.slice pa zs.length pc, .int .i64 dr, .int .i64 bu, .int .i64 en, .int .i64 wa, .pointer (some ⟨bo, 0, none⟩), .int .i64 0, .int .i64 0, .int .i64 0, .int .i64 0, .int .i64 0, .int .i64 0, .pointer (some ⟨be, 0, none⟩), .map (some w1.heap.size), .int .i64 0, .slice none 0 0, .slice none 0 0] 97 (0, 0)) := by rw [← hF]; exact new1_0 _ _
    obtain ⟨own', A, B, C⟩ := tier_made (own := own) (τ := τ) (w0 := w) (c := ⟨zs, dr, bu, en, wa⟩) (unhide HOK) (unhide HTOP) TF.size (owns_base (owns_turn R7 TF7 (fun _ _ h => h)) (by omega)) hgp ((TF8.block _ y8 id).trans O8) (M8.heap (TF8.block _ y8' id)) ((TF9.block _ y9 id).trans O9) (M9.heap (TF9.block _ y9' id)) MQ HBT
      (by simp only [List.nodup_cons, List.mem_cons, List.not_mem_nil, or_false, not_or, List.nodup_nil, and_true, not_false_eq_true]; refine ⟨⟨?_, ?_, ?_, ?_, ?_, ?_⟩, ⟨?_, ?_, ?_, ?_, ?_⟩, ⟨?_, ?_, ?_, ?_⟩, ⟨?_, ?_, ?_⟩, ⟨?_, ?_⟩, ?_⟩ <;> omega) (by omega) (by omega) (by omega) (by omega) (by omega) (by omega)
    exact ⟨_, own', rfl, TF, by omega, A, B, C⟩

end Go.Proofs.YtpdkojgepagbnaaDoor

namespace Go.Proofs.YtpdkojgepagbnaaDoor
open Tier (Mes Ans Conf St Kept Wtr Ftc Cac Item Was)

def asks (l : List StepD) : Nat := (l.filter fun o => decide (o.kind = 3)).length

theorem asks_take {script : List StepD} {i : Nat} {o : StepD} (h : script[i]? = some o) : asks (script.take (i + 1)) = asks (script.take i) + if o.kind = 3 then 1 else 0 := by
  unfold asks
  rw [List.take_add_one, h, List.filter_append, List.length_append]
  congr 1
  by_cases e : o.kind = 3 <;> simp [e]

theorem askedF_at : ∀ (script : List StepD) (i : Nat) (o : StepD) (n : Int), script[i]? = some o → o.kind = 3 → askedF script n (n + asks (script.take i)) = keyD o.b
  | [], i, o, n, h, _ => by simp at h
  | p :: r, 0, o, n, h, hk => by
    simp at h
    subst h
    unfold askedF
    rw [if_pos hk, if_pos (by simp [asks])]
  | p :: r, i + 1, o, n, h, hk => by
    have h' : r[i]? = some o := by simpa using h
    unfold askedF
    by_cases e : p.kind = 3
    · have ha : asks ((p :: r).take (i + 1)) = asks (r.take i) + 1 := by unfold asks; rw [List.take_succ_cons, List.filter_cons_of_pos (by simpa using e)]; rfl
      rw [if_pos e, ha, if_neg (by omega)]
      have := askedF_at r i o (n + 1) h' hk
      rw [show n + ((asks (r.take i) + 1 : Nat) : Int) = n + 1 + (asks (r.take i) : Int) by omega]
      exact this
    · have ha : asks ((p :: r).take (i + 1)) = asks (r.take i) := by unfold asks; rw [List.take_succ_cons, List.filter_cons_of_neg (by simpa using e)]
      rw [if_neg e, ha]
      exact askedF_at r i o n h' hk

/-- Behind a step, ahead of its answers. -/
structure Mid (tm : Prop) (script : List StepD) (i : Nat) (h : Sh) (t : St) : Prop where
  inv : ∃ g : Tier.G, Tier.Inv g t ∧ Tier.HistOK g.h ∧ g.tm = tm ∧ g.h = h.l ∧ g.now = h.now ∧ (∀ id : Int, 0 ≤ id → id < h.opn.length → g.kid id = askedF script 0 id)
  neat : Tier.AllNeat t
  cnt : ∀ id : Int, Tier.cnt id t ≤ if 0 ≤ id ∧ h.opn[id.toNat]? = some true then 1 else 0
  last : ∀ k, (lastOf h.l k).ver = (t.item k).ver ∧ (lastOf h.l k).pres = (t.item k).pres
  ids : h.opn.length = asks (script.take i)
  now : 0 ≤ h.now ∧ ∀ r ∈ h.l, 0 ≤ r.frm ∧ r.frm ≤ h.now
  budget : 1 ≤ t.c.budget
  waits : 0 ≤ t.c.waiters
  four : ∀ x ∈ t.items, ∃ j, j < 4 ∧ x.key = keyI j

/-- Between steps. -/
structure Kin (tm : Prop) (script : List StepD) (i : Nat) (h : Sh) (t : St) : Prop where
  mid : Mid tm script i h t
  ans : t.answers = []

variable {tm : Prop} {script : List StepD} {i : Nat} {h : Sh} {t : St}

theorem Mid.later {o : StepD} (m : Mid tm script i h t) (ho : script[i]? = some o) (hk : o.kind ≠ 3) : Mid tm script (i + 1) h t :=
  ⟨m.inv, m.neat, m.cnt, m.last, by rw [m.ids, asks_take ho, if_neg hk]; rfl, m.now, m.budget, m.waits, m.four⟩

/-- The tier goes on, and nothing that the caller knows. -/
theorem Mid.goes (m : Mid tm script i h t) {u : St} (hg : ∀ g, Tier.Inv g t → Tier.Goes g u) (hn : Tier.AllNeat u) (hc : ∀ id, Tier.cnt id u ≤ Tier.cnt id t) (hi : u.items = t.items) (hcc : u.c = t.c) : Mid tm script i h u := by
  obtain ⟨g, I, H, a, b, c, d⟩ := m.inv
  obtain ⟨g', I', a', b', c', d', _, _⟩ := (hg g I).inv
  refine ⟨⟨g', I', by rw [b']; exact H, a'.trans a, b'.trans b, c'.trans c, fun id h0 h1 => by rw [d']; exact d id h0 h1⟩, hn, fun id => Nat.le_trans (hc id) (m.cnt id), fun k => ?_, m.ids, m.now, by rw [hcc]; exact m.budget, by rw [hcc]; exact m.waits, by rw [hi]; exact m.four⟩
  have : u.item k = t.item k := by unfold Tier.St.item; rw [hi]
  rw [this]; exact m.last k

theorem Mid.size (m : Mid tm script i h t) : t.caches.length = t.c.parents.length := by
  obtain ⟨g, I, _⟩ := m.inv
  rw [I.size, I.conf]
theorem Mid.room (m : Mid tm script i h t) : 1 ≤ t.c.entries := by
  obtain ⟨g, I, _⟩ := m.inv
  rw [I.conf]; exact I.room

theorem c_refuseAll (n : Nat) (k : ByteArray) : ∀ (l : List Wtr) (t : St), (t.refuseAll n k l).c = t.c
  | [], _ => rfl
  | x :: l, t => by
    have h1 : (t.refused n k x).c = t.c := by unfold Tier.St.refused; split <;> rfl
    exact (c_refuseAll n k l (t.refused n k x)).trans h1
theorem c_tellAll (n : Nat) (k : ByteArray) : ∀ (l : List Wtr) (t : St), (t.tellAll n k l).c = t.c
  | [], _ => rfl
  | x :: l, t => by
    have h1 : (match t.entry n k with | some e => t.toldBy n e x | none => t).c = t.c := by
      split
      · exact (Tier.told_parts t n _ x).2
      · rfl
    exact (c_tellAll n k l _).trans h1
theorem c_wants (t : St) (n : Nat) (k : ByteArray) (x : Wtr) : (t.wants n k x).c = t.c := by
  have h1 : ∀ u : St, (u.refused n k x).c = u.c := fun u => by unfold Tier.St.refused; split <;> rfl
  have h2 : ∀ tag, (if t.c.waiters ≤ t.waiting n then t.refused n k x else if (t.fetch n k).isSome then t.joins n k x else t.sends n k tag [x]).c = t.c := fun tag => by
    split
    · exact h1 t
    · split <;> rfl
  unfold Tier.St.wants
  split
  · next e _ =>
    split
    · exact (Tier.told_parts t n e x).2
    · exact h2 e.ver
  · exact h2 (-1)
theorem c_comes (t : St) (m : Mes) : (t.comes m).c = t.c := by
  unfold Tier.St.comes
  split
  · unfold Tier.St.answered
    split
    · rfl
    · split
      · rfl
      · split
        · exact c_refuseAll _ _ _ _
        · split
          · rfl
          · dsimp only
            split
            · exact c_tellAll _ _ _ _
            · exact c_refuseAll _ _ _ _
  · split
    · exact c_wants ..
    · unfold Tier.St.atOrigin
      dsimp only
      split <;> rfl
theorem c_timeout (t : St) (n : Nat) (k : ByteArray) : (t.timeout n k).c = t.c := by
  unfold Tier.St.timeout
  split
  · rfl
  · exact c_refuseAll _ _ _ _
theorem items_timeout (t : St) (n : Nat) (k : ByteArray) : (t.timeout n k).items = t.items := by
  unfold Tier.St.timeout
  split
  · rfl
  · exact items_refuseAll _ _ _ _

theorem Mid.comes (m : Mid tm script i h t) {j : Nat} {x : Mes} (hx : t.net[j]? = some x) : Mid tm script i h ((t.taken j).comes x) := by
  have hmem := List.mem_of_getElem? hx
  obtain ⟨g0, I0, _⟩ := m.inv
  have hpm := I0.says.net x hmem
  have hz := m.size
  obtain ⟨a, b⟩ := Tier.comes_ok (t := t.taken j) (Tier.neat_of m.neat rfl rfl) m.room x ⟨hpm.2.2.1, by show x.to < (t.caches.length : Int); rw [hz, I0.conf]; exact hpm.2.2.2.1⟩ (fun e => (hpm.2.2.2.2.2.1 e).1)
  refine m.goes (fun g I => Tier.inv_comes (Tier.inv_taken I j) x (I.says.net x hmem)) a (fun id => by rw [b id]; exact Nat.le_refl _) (items_comes _ _) (c_comes _ _)

theorem Mid.taken (m : Mid tm script i h t) (j : Nat) : Mid tm script i h (t.taken j) :=
  m.goes (fun _ I => Or.inl (Tier.inv_taken I j)) (Tier.neat_of m.neat rfl rfl) (fun _ => Nat.le_refl _) rfl rfl
theorem Mid.doubled (m : Mid tm script i h t) {x : Mes} (hx : x ∈ t.net) : Mid tm script i h { t with net := t.net ++ [x] } :=
  m.goes (fun _ I => Or.inl (Tier.inv_double I x hx)) (Tier.neat_of m.neat rfl rfl) (fun _ => Nat.le_refl _) rfl rfl
theorem Mid.net (m : Mid tm script i h t) (o : StepD) : Mid tm script i h (netF o t) := by
  unfold netF
  split
  · exact m
  · next x hx =>
    split
    · exact m.comes hx
    · split
      · exact m.taken _
      · split
        · exact m.doubled (List.mem_of_getElem? hx)
        · exact m
theorem Mid.timeout (m : Mid tm script i h t) {n : Nat} (hn : n < t.c.parents.length) (k : ByteArray) : Mid tm script i h (t.timeout n k) := by
  obtain ⟨a, b⟩ := Tier.timeout_ok m.neat n (by rw [m.size]; exact hn) k
  exact m.goes (fun _ I => Or.inl (Tier.inv_timeout I n k)) a (fun id => by rw [b id]; exact Nat.le_refl _) (items_timeout ..) (c_timeout ..)
theorem Mid.crash (m : Mid tm script i h t) {n : Nat} (hn : n < t.c.parents.length) : Mid tm script i h (t.crash n) := by
  obtain ⟨a, b⟩ := Tier.crash_ok m.neat n (by rw [m.size]; exact hn) (by have := m.room; omega) m.waits
  exact m.goes (fun _ I => Or.inl (Tier.inv_crash I n)) a b rfl rfl
theorem Mid.settle : ∀ (j : Nat) {t : St}, Mid tm script i h t → Mid tm script i h (settleF j t).1
  | 0, _, m => m
  | j + 1, t, m => by
    unfold settleF
    split
    · exact m
    · next x r hn => exact Mid.settle j (m.comes (j := 0) (by rw [hn]; rfl))

theorem Mid.tire (m : Mid tm script i h t) (b : Bool) : Mid tm script i { h with tired := b } t := ⟨m.inv, m.neat, m.cnt, m.last, m.ids, m.now, m.budget, m.waits, m.four⟩

/-- The origin's key is written or removed. -/
theorem Kin.changes (m : Kin tm script i h t) {k : ByteArray} (h4 : ∃ j, j < 4 ∧ k = keyI j) (p : Int) (x : ByteArray) : Mid tm script i { h with l := h.l ++ [⟨k, (lastOf h.l k).ver + 1, p, x, h.now⟩] } (t.changes ⟨k, (t.item k).ver + 1, p, x⟩) := by
  obtain ⟨g, I, H, a, b, c, d⟩ := m.mid.inv
  have hl := m.mid.last k
  have I' := Tier.inv_changes I k p x m.ans
  have H' := Tier.hist_more I H k p x
  rw [← c, hl.1, ← b]
  refine ⟨⟨_, I', H', a, rfl, rfl, d⟩, Tier.neat_of m.mid.neat rfl rfl, m.mid.cnt, fun j => ?_, m.mid.ids, ⟨(by show 0 ≤ g.now; rw [c]; exact m.mid.now.1), fun r hr => ?_⟩, m.mid.budget, m.mid.waits, fun r hr => ?_⟩
  · show (lastOf (g.h ++ [_]) j).ver = _ ∧ (lastOf (g.h ++ [_]) j).pres = _
    rw [lastOf_snoc]
    by_cases e : k = j
    · subst e
      rw [if_pos rfl, Tier.item_changes_same t ⟨k, (t.item k).ver + 1, p, x⟩]
      exact ⟨rfl, rfl⟩
    · rw [if_neg e, Tier.item_changes_other t ⟨k, (t.item k).ver + 1, p, x⟩ j e, b]
      exact m.mid.last j
  · show 0 ≤ r.frm ∧ r.frm ≤ g.now
    rw [c]
    rcases mem_snoc hr with hr | rfl
    · exact m.mid.now.2 r (b ▸ hr)
    · show 0 ≤ g.now ∧ g.now ≤ h.now
      rw [c]; exact ⟨m.mid.now.1, Int.le_refl _⟩
  · have hr : r ∈ t.items.filter (fun y => decide (y.key ≠ k)) ++ [⟨k, (t.item k).ver + 1, p, x⟩] := hr
    rcases mem_snoc hr with hr | rfl
    · exact m.mid.four r (List.mem_filter.1 hr).1
    · exact h4

/-- A client asks. -/
theorem Mid.ask (m : Mid tm script i h t) {o : StepD} (ho : script[i]? = some o) (hk : o.kind = 3) {n : Nat} (h0 : 0 < n) (hn : n < t.c.parents.length) : Mid tm script (i + 1) { h with opn := h.opn ++ [true] } (t.wants n (keyD o.b) ⟨-1, h.opn.length, 0, 0⟩) := by
  obtain ⟨g, I, H, a, b, c, d⟩ := m.inv
  have hz : Tier.cnt (h.opn.length : Int) t = 0 := by
    have := m.cnt (h.opn.length : Int)
    rw [if_neg (by simp)] at this
    omega
  have I1 := Tier.inv_asked I (h.opn.length : Int) (keyD o.b) (Tier.noId_of_cnt hz)
  have hcn : n < g.c.parents.length := by rw [← I.conf]; exact hn
  have G1 := Tier.inv_wants I1 n h0 hcn (keyD o.b) ⟨-1, h.opn.length, 0, 0⟩ ⟨fun _ => by show (if _ then _ else _) = _; rw [if_pos rfl], fun e => absurd (show (-1 : Int) < 0 by decide) e⟩
  obtain ⟨g', I', a', b', c', d', _, _⟩ := G1.inv
  obtain ⟨w1, w2⟩ := Tier.wants_ok m.neat n (by rw [m.size]; exact hn) m.room (keyD o.b) ⟨-1, h.opn.length, 0, 0⟩
  refine ⟨⟨g', I', by rw [b']; exact H, a'.trans a, b'.trans b, c'.trans c, fun id h0 h1 => ?_⟩, w1, fun id => ?_, fun k => ?_, ?_, m.now, by rw [c_wants]; exact m.budget, by rw [c_wants]; exact m.waits, by rw [items_wants]; exact m.four⟩
  · rw [d']
    show (if id = (h.opn.length : Int) then keyD o.b else g.kid id) = _
    have h1 : id < ((h.opn ++ [true]).length : Int) := h1
    split
    · next e =>
      have := askedF_at script i o 0 ho hk
      rw [← m.ids, Int.zero_add] at this
      rw [e, this]
    · next e => exact d id h0 (by simp at h1; omega)
  · rw [w2 id]
    have hc := m.cnt id
    unfold Tier.one Tier.isC
    by_cases e : (h.opn.length : Int) = id
    · subst e
      rw [hz, if_pos (by simp)]
      simp
    · rw [decide_eq_false e]
      show Tier.cnt id t + (if (true && false) = true then 1 else 0) ≤ _
      simp only [Bool.and_false, Bool.false_eq_true, if_false, Nat.add_zero]
      refine Nat.le_trans hc ?_
      show (if _ then _ else _) ≤ (if 0 ≤ id ∧ (h.opn ++ [true])[id.toNat]? = some true then 1 else 0)
      split
      · next q =>
        have hq : (h.opn ++ [true])[id.toNat]? = some true := by rw [List.getElem?_append_left (List.getElem?_eq_some_iff.1 q.2).1]; exact q.2
        rw [if_pos ⟨q.1, hq⟩]
        exact Nat.le_refl _
      · exact Nat.zero_le _
  · have : (t.wants n (keyD o.b) ⟨-1, h.opn.length, 0, 0⟩).item k = t.item k := by unfold Tier.St.item; rw [items_wants]
    rw [this]; exact m.last k
  · show (h.opn ++ [true]).length = _
    rw [asks_take ho, if_pos hk, List.length_append, m.ids]; rfl

/-- Every step but the passing of time. -/
theorem Kin.step (m : Kin tm script i h t) {o : StepD} (ho : script[i]? = some o) (hk : o.kind ≠ 2) (hp : 2 ≤ t.c.parents.length) : Mid tm script (i + 1) (stepF o h t).1 (stepF o h t).2 := by
  have hca := cacheD_ok hp o.a
  have hky : ∃ j, j < 4 ∧ keyD o.a = keyI j := by
    have := pickN_ok o.a (n := 4) (by decide)
    exact ⟨(pickN o.a 4).toNat, by omega, rfl⟩
  unfold stepF
  by_cases k0 : o.kind = 0
  · rw [if_pos k0]; exact (m.changes hky 1 (cutS o.s)).later ho (by omega)
  rw [if_neg k0]
  by_cases k1 : o.kind = 1
  · rw [if_pos k1]
    split
    · exact m.mid.later ho (by omega)
    · exact (m.changes hky 0 Tier.empty).later ho (by omega)
  rw [if_neg k1, if_neg hk]
  by_cases k3 : o.kind = 3
  · rw [if_pos k3]; exact m.mid.ask ho k3 hca.1 hca.2
  rw [if_neg k3]
  have m' := m.mid.later ho k3
  split
  · exact m'.net o
  · split
    · exact m'.timeout hca.2 _
    · split
      · exact m'.crash hca.2
      · split
        · exact (m'.settle 100000).tire _
        · exact m'

end Go.Proofs.YtpdkojgepagbnaaDoor

namespace Go.Proofs.YtpdkojgepagbnaaDoor
open Tier (Mes Ans Conf St Kept Wtr Ftc Cac Item Was)

variable {tm : Prop} {script : List StepD} {i : Nat} {h : Sh} {t : St}

theorem cac_tick {t : St} {n : Nat} (hn : n < t.caches.length) (c : Int) (m : Nat) : (t.tick n c).cac m = if m = n then { t.cac n with clock := c } else t.cac m := by
  unfold Tier.St.tick
  rw [Tier.cac_set]
  by_cases e : m = n
  · rw [if_pos ⟨e, hn⟩, if_pos e]
  · rw [if_neg (fun x => e x.1), if_neg e]

theorem cc_ticked {t u : St} {ck : Nat → Int} (hu : Tier.Ticked t u ck) (id : Int) : Tier.cc id u.caches = Tier.cc id t.caches := by
  have e : u.caches.map (fun c => Tier.cf id c.fts) = t.caches.map (fun c => Tier.cf id c.fts) := by
    apply List.ext_getElem
    · simp [hu.size]
    · intro n h1 h2
      simp only [List.length_map] at h1 h2
      have a : u.cac n = u.caches[n] := by unfold Tier.St.cac; rw [List.getD_eq_getElem?_getD, List.getElem?_eq_getElem h1]; rfl
      have b : t.cac n = t.caches[n] := by unfold Tier.St.cac; rw [List.getD_eq_getElem?_getD, List.getElem?_eq_getElem h2]; rfl
      have := hu.cac n
      rw [a, b] at this
      simp only [List.getElem_map]
      rw [this]
  unfold Tier.cc
  rw [e]

theorem Kin.ticked (m : Kin tm script i h t) {u : St} {ck : Nat → Int} (hu : Tier.Ticked t u ck) (d : Int) (hd : 0 ≤ d) (hck : ∀ n, (t.cac n).clock ≤ ck n) (hdr : tm → ∀ n, 0 < n → n < t.c.parents.length → (1000000 - t.c.drift) * d ≤ 1000000 * (ck n - (t.cac n).clock)) (cl : List Int) : Kin tm script i { h with now := h.now + d, clocks := cl } u := by
  obtain ⟨g, I, H, a, b, c, e⟩ := m.mid.inv
  have I' := Tier.inv_ticks I ck hu d hd (fun n => by rw [← I.clk n]; exact hck n) (fun htm n h0 h1 => by rw [← I.clk n, ← I.conf]; exact hdr (a ▸ htm) n h0 (by rw [I.conf]; exact h1)) m.ans
  refine ⟨⟨⟨_, I', H, a, b, by show g.now + d = h.now + d; rw [c], e⟩, fun n => ?_, fun id => ?_, fun k => ?_, m.mid.ids, ⟨by have := m.mid.now.1; show 0 ≤ h.now + d; omega, fun r hr => by have := m.mid.now.2 r hr; show 0 ≤ r.frm ∧ r.frm ≤ h.now + d; omega⟩, by rw [hu.c]; exact m.mid.budget, by rw [hu.c]; exact m.mid.waits, by rw [hu.items]; exact m.mid.four⟩, by rw [hu.answers]; exact m.ans⟩
  · rw [hu.cac n, hu.c]
    obtain ⟨x, y, z, v⟩ := m.mid.neat n
    exact ⟨x, y, z, v⟩
  · have : Tier.cnt id u = Tier.cnt id t := by unfold Tier.cnt; rw [cc_ticked hu, hu.answers]
    rw [this]; exact m.mid.cnt id
  · have : u.item k = t.item k := by unfold Tier.St.item; rw [hu.items]
    rw [this]; exact m.mid.last k

theorem ticked_one {t : St} {n : Nat} (hn : n < t.caches.length) (c : Int) : Tier.Ticked t (t.tick n c) (fun m => if m = n then c else (t.cac m).clock) := by
  refine ⟨fun m => ?_, Tier.length_set t n _, rfl, rfl, rfl, rfl, rfl⟩
  rw [cac_tick hn]
  split
  · next e => rw [e]
  · rfl
theorem ticked_none (t : St) : Tier.Ticked t t (fun m => (t.cac m).clock) := ⟨fun _ => rfl, rfl, rfl, rfl, rfl, rfl, rfl⟩

/-- Whatever the clocks are told. -/
theorem Kin.anyTick (m : Kin False script i h t) {n : Nat} (hn : n < t.c.parents.length) (r : Int) : Kin False script i h (t.tick n (max (t.cac n).clock r)) := by
  have := m.ticked (ticked_one (by rw [m.mid.size]; exact hn) (max (t.cac n).clock r)) 0 (Int.le_refl _) (fun x => by show _ ≤ (if x = n then _ else _); by_cases e : x = n; (· rw [if_pos e, e]; omega); (· rw [if_neg e]; exact Int.le_refl _)) (fun e => e.elim) h.clocks
  rw [Int.add_zero] at this
  exact this
theorem Kin.anyTime (m : Kin False script i h t) : Kin False script i { h with now := h.now + 1 } t :=
  m.ticked (ticked_none t) 1 (by decide) (fun _ => Int.le_refl _) (fun e => e.elim) h.clocks

theorem leastD_ok {drift n : Int} (hd : drift ≤ 500000) (h0 : 0 ≤ n) : 0 ≤ leastD drift n ∧ n * (1000000 - drift) ≤ leastD drift n * 1000000 := by
  have hp : 0 ≤ n * (1000000 - drift) := Int.mul_nonneg h0 (by omega)
  unfold leastD
  generalize n * (1000000 - drift) = u at *
  split <;> omega
theorem moreD_ok (b : Int) (k : Nat) : 0 ≤ moreD b k := (pickN_ok _ (by decide)).1

/-- The clocks go on, each by what it must and more. -/
theorem passF_ok {drift n b : Int} (hl : 0 ≤ leastD drift n) : ∀ (f k : Nat) (cl : List Int) (t : St), 0 < k → k + f = cl.length → cl.length = t.caches.length → (∀ j, k ≤ j → j < cl.length → cl.getD j 0 = (t.cac j).clock) → (∀ j, 0 < j → (passF drift n b f k cl t).1.getD j 0 ≤ 1099511627776) →
    (passF drift n b f k cl t).1.length = cl.length ∧ (∀ j, j < k → (passF drift n b f k cl t).1.getD j 0 = cl.getD j 0) ∧ (∀ j, k ≤ j → j < cl.length → (passF drift n b f k cl t).1.getD j 0 = cl.getD j 0 + leastD drift n + moreD b j) ∧
    Tier.Ticked t (passF drift n b f k cl t).2 (fun j => if k ≤ j ∧ j < cl.length then (passF drift n b f k cl t).1.getD j 0 else (t.cac j).clock)
  | 0, k, cl, t, _, hk, _, _, _ => by
    refine ⟨rfl, fun _ _ => rfl, fun j h1 h2 => by omega, ?_⟩
    have e : (fun j => if k ≤ j ∧ j < cl.length then (passF drift n b 0 k cl t).1.getD j 0 else (t.cac j).clock) = fun j => (t.cac j).clock := by
      funext j
      rw [if_neg (by omega)]
    rw [e]
    exact ticked_none t
  | f + 1, k, cl, t, h0, hk, hlen, hag, hno => by
    have hkl : k < cl.length := by omega
    have hck := hag k (Nat.le_refl _) hkl
    have hm := moreD_ok b k
    unfold passF at hno ⊢
    generalize hc : cl.getD k 0 + leastD drift n + moreD b k = c at *
    have hset : ∀ j, (cl.set k c).getD j 0 = if j = k then c else cl.getD j 0 := fun j => by
      rw [List.getD_eq_getElem?_getD, List.getD_eq_getElem?_getD, List.getElem?_set]
      by_cases e : k = j
      · subst e; rw [if_pos rfl, if_pos hkl, if_pos rfl]; rfl
      · rw [if_neg e, if_neg (Ne.symm e)]
    by_cases hgt : 1099511627776 < c
    · rw [if_pos hgt] at hno
      have := hno k h0
      dsimp only at this
      rw [hset, if_pos rfl] at this
      omega
    · rw [if_neg hgt] at hno ⊢
      have hmax : max (t.cac k).clock c = c := by omega
      rw [hmax] at hno ⊢
      have hkt : k < t.caches.length := by omega
      obtain ⟨r1, r2, r3, r4⟩ := passF_ok (b := b) hl f (k + 1) (cl.set k c) (t.tick k c) (by omega) (by simp; omega) (by rw [List.length_set, hlen]; exact (Tier.length_set t k _).symm) (fun j h1 h2 => by
        rw [List.length_set] at h2
        rw [hset, if_neg (by omega), cac_tick hkt, if_neg (by omega)]
        exact hag j (by omega) h2) hno
      rw [List.length_set] at r1 r3 r4
      refine ⟨r1, fun j hj => ?_, fun j h1 h2 => ?_, ⟨fun j => ?_, r4.size.trans (Tier.length_set t k _), r4.net, r4.answers, r4.items, r4.serial, r4.c⟩⟩
      · rw [r2 j (by omega), hset, if_neg (by omega)]
      · by_cases e : j = k
        · subst e
          rw [r2 j (by omega), hset, if_pos rfl, hc]
        · rw [r3 j (by omega) h2, hset, if_neg e]
      · rw [r4.cac j, cac_tick hkt]
        by_cases e : j = k
        · subst e
          rw [if_pos rfl, if_neg (by omega)]
          rw [if_pos ⟨Nat.le_refl _, hkl⟩, r2 j (by omega), hset, if_pos rfl]
        · rw [if_neg e]
          by_cases e2 : k ≤ j ∧ j < cl.length
          · rw [if_pos (by omega), if_pos e2]
          · rw [if_neg (by omega), if_neg e2]

/-- The caller's clocks are the caches'. -/
structure Agree (h : Sh) (t : St) : Prop where
  len : h.clocks.length = t.c.parents.length
  is : ∀ k, 0 < k → k < t.c.parents.length → h.clocks.getD k 0 = (t.cac k).clock
  zero : h.clocks.getD 0 0 = 0

theorem overB_not {h : Sh} (ho : overB h = false) : h.tired = false ∧ ∀ j, 0 < j → h.clocks.getD j 0 ≤ 1099511627776 := by
  unfold overB at ho
  rw [Bool.or_eq_false_iff] at ho
  refine ⟨ho.1, fun j hj => ?_⟩
  rw [List.getD_eq_getElem?_getD]
  cases hg : h.clocks[j]? with
  | none => show (0 : Int) ≤ _; decide
  | some c =>
    have hm : c ∈ h.clocks.drop 1 := List.mem_of_getElem? (i := j - 1) (by rw [List.getElem?_drop]; rw [show 1 + (j - 1) = j by omega]; exact hg)
    have := List.any_eq_false.1 ho.2 c hm
    show c ≤ _
    simp at this
    omega

theorem Kin.pass (m : Kin tm script i h t) (ag : Agree h t) (hd : 0 ≤ t.c.drift ∧ t.c.drift ≤ 500000) {o : StepD} (ho : script[i]? = some o) (hk : o.kind = 2) (hp : 2 ≤ t.c.parents.length) (hov : overB (stepF o h t).1 = false) :
    Mid tm script (i + 1) (stepF o h t).1 (stepF o h t).2 ∧ Agree (stepF o h t).1 (stepF o h t).2 := by
  have hn := (pickN_ok o.a (n := 1000) (by decide)).1
  have hl := leastD_ok hd.2 hn
  have hstep : stepF o h t = ({ h with now := h.now + pickN o.a 1000, clocks := (passF t.c.drift (pickN o.a 1000) o.b (h.clocks.length - 1) 1 h.clocks t).1 }, (passF t.c.drift (pickN o.a 1000) o.b (h.clocks.length - 1) 1 h.clocks t).2) := by
    unfold stepF
    rw [if_neg (by omega), if_neg (by omega), if_pos hk]
  rw [hstep] at hov ⊢
  have hno := (overB_not hov).2
  dsimp only at hno ⊢
  have hlen := ag.len
  have hz := m.mid.size
  obtain ⟨r1, r2, r3, r4⟩ := passF_ok (b := o.b) hl.1 (h.clocks.length - 1) 1 h.clocks t (by decide) (by omega) (by omega) (fun j h1 h2 => ag.is j (by omega) (by omega)) hno
  generalize hr : passF t.c.drift (pickN o.a 1000) o.b (h.clocks.length - 1) 1 h.clocks t = r at *
  have hck : ∀ j, (t.cac j).clock ≤ if 1 ≤ j ∧ j < h.clocks.length then r.1.getD j 0 else (t.cac j).clock := fun j => by
    split
    · next e =>
      rw [r3 j e.1 e.2, ag.is j (by omega) (by omega)]
      have := moreD_ok o.b j
      omega
    · exact Int.le_refl _
  have K := m.ticked r4 (pickN o.a 1000) hn hck (fun _ j h0 h1 => by
    rw [if_pos ⟨h0, by omega⟩, r3 j h0 (by omega), ag.is j h0 h1]
    have h2 := moreD_ok o.b j
    have h3 := hl.2
    rw [Int.mul_comm] at h3
    generalize (1000000 - t.c.drift) * pickN o.a 1000 = u at *
    omega) r.1
  refine ⟨K.mid.later ho (by omega), ⟨by show r.1.length = _; rw [r4.c]; omega, fun k h0 h1 => ?_, by show r.1.getD 0 0 = 0; rw [r2 0 (by decide)]; exact ag.zero⟩⟩
  rw [r4.c] at h1
  rw [r4.cac k]
  show r.1.getD k 0 = if 1 ≤ k ∧ k < h.clocks.length then r.1.getD k 0 else (t.cac k).clock
  rw [if_pos ⟨h0, by omega⟩]

/-! ### answers -/
theorem shut_other {l : List Bool} {m : Nat} : ∀ {a : List Ans}, (∀ x ∈ a, x.id.toNat ≠ m) → (shut l a)[m]? = l[m]? := by
  intro a
  induction a generalizing l with
  | nil => intro _; rfl
  | cons x r ih =>
    intro hx
    show (shut (l.set x.id.toNat false) r)[m]? = _
    rw [ih (fun y hy => hx y (List.mem_cons_of_mem _ hy)), List.getElem?_set, if_neg (hx x List.mem_cons_self)]
theorem shut_true {l : List Bool} {m : Nat} : ∀ {a : List Ans}, (shut l a)[m]? = some true → l[m]? = some true ∧ ∀ x ∈ a, x.id.toNat ≠ m := by
  intro a
  induction a generalizing l with
  | nil => intro e; exact ⟨e, fun x hx => by cases hx⟩
  | cons x r ih =>
    intro e
    obtain ⟨h1, h2⟩ := ih (l := l.set x.id.toNat false) e
    rw [List.getElem?_set] at h1
    by_cases hx : x.id.toNat = m
    · rw [if_pos hx] at h1
      split at h1 <;> cases h1
    · rw [if_neg hx] at h1
      refine ⟨h1, fun y hy => ?_⟩
      rcases List.mem_cons.1 hy with rfl | hy
      · exact hx
      · exact h2 y hy

theorem countP_two {α : Type} {p : α → Bool} {l : List α} {j : Nat} {a x : α} (hj : l[j]? = some a) (ha : p a = true) (hx : x ∈ l.take j) (hp : p x = true) : 2 ≤ l.countP p := by
  have h1 : 1 ≤ (l.take j).countP p := List.countP_pos_iff.2 ⟨x, hx, hp⟩
  have h2 : 1 ≤ (l.drop j).countP p := List.countP_pos_iff.2 ⟨a, List.mem_of_getElem? (i := 0) (by rw [List.getElem?_drop]; simpa using hj), ha⟩
  have h3 : l.countP p = (l.take j).countP p + (l.drop j).countP p := by rw [← List.countP_append, List.take_append_drop]
  omega

theorem Mid.opens (m : Mid tm script i h t) {a : Ans} (ha : a ∈ t.answers) : 0 ≤ a.id ∧ h.opn[a.id.toNat]? = some true ∧ Tier.ca a.id t.answers = 1 ∧ Tier.cc a.id t.caches = 0 := by
  have h1 : 1 ≤ Tier.ca a.id t.answers := List.countP_pos_iff.2 ⟨a, ha, by simp⟩
  have h2 : Tier.cc a.id t.caches + Tier.ca a.id t.answers ≤ _ := m.cnt a.id
  split at h2
  · next e => exact ⟨e.1, e.2, by omega, by omega⟩
  · omega

theorem Mid.answers (m : Mid tm script i h t) {budget frm : Int} (hok : ∀ g : Tier.G, Tier.Inv g t → Tier.HistOK g.h → g.tm = tm → g.h = h.l → g.now = h.now → ∀ a ∈ t.answers, a.kind = 1 → Tier.heldB g.h (g.kid a.id) a.ver a.pres a.val g.now frm = true ∧ 0 ≤ a.age ∧ a.age ≤ budget) :
    AnsAll script budget frm h t.answers ∧ Kin tm script i { h with opn := shut h.opn t.answers } { t with answers := [] } := by
  have hlt : ∀ a ∈ t.answers, a.id.toNat < h.opn.length := fun a ha => (List.getElem?_eq_some_iff.1 (m.opens ha).2.1).1
  obtain ⟨g, I, H, e1, e2, e3, e4⟩ := m.inv
  refine ⟨⟨fun j a hj => ?_, fun a ha => ?_⟩, ⟨⟨g, Tier.inv_told I, H, e1, e2, e3, fun id h0 h1 => e4 id h0 (by simpa [shut_length] using h1)⟩, Tier.neat_of m.neat rfl rfl, fun id => ?_, m.last, by rw [shut_length]; exact m.ids, m.now, m.budget, m.waits, m.four⟩, rfl⟩
  · have ha := List.mem_of_getElem? hj
    obtain ⟨o1, o2, o3, _⟩ := m.opens ha
    refine ⟨o1, by have := hlt a ha; omega, ?_⟩
    rw [shut_other (fun x hx e => ?_)]
    · exact o2
    · have hx0 := (m.opens (List.mem_of_mem_take hx)).1
      have : 2 ≤ Tier.ca a.id t.answers := countP_two (p := fun y : Ans => decide (y.id = a.id)) (l := t.answers) hj (decide_eq_true rfl) hx (decide_eq_true (show x.id = a.id by omega))
      omega
  · rcases I.says.answers a ha with ⟨k2, v, p, x, ag⟩ | ⟨k1, _⟩
    · exact Or.inl ⟨k2, v, p, x, ag⟩
    · obtain ⟨b1, b2, b3⟩ := hok g I H e1 e2 e3 a ha k1
      have := hlt a ha
      have := (m.opens ha).1
      rw [e2, e3, e4 a.id (by omega) (by omega)] at b1
      exact Or.inr ⟨k1, b1, b2, b3⟩
  · have h2 : Tier.cc id t.caches + Tier.ca id t.answers ≤ _ := m.cnt id
    show Tier.cc id t.caches + 0 ≤ if 0 ≤ id ∧ (shut h.opn t.answers)[id.toNat]? = some true then 1 else 0
    split
    · split at h2 <;> omega
    · next hq =>
      split at h2
      · next hp =>
        have : ∃ a ∈ t.answers, a.id.toNat = id.toNat := by
          refine Classical.byContradiction fun hne => hq ⟨hp.1, ?_⟩
          rw [shut_other (fun x hx e => hne ⟨x, hx, e⟩)]
          exact hp.2
        obtain ⟨a, ha, e⟩ := this
        have hai := (m.opens ha).1
        have hz := (m.opens ha).2.2.2
        have : a.id = id := by omega
        rw [this] at hz
        omega
      · omega

/-- Of time. -/
theorem Mid.answersTimed (m : Mid True script i h t) : AnsAll script t.c.budget (h.now - t.c.budget) h t.answers ∧ Kin True script i { h with opn := shut h.opn t.answers } { t with answers := [] } := by
  refine m.answers (fun g I H e1 e2 e3 a ha hk => ?_)
  have := Tier.told_held I H (by rw [e1]; trivial) (by rw [← I.conf]; exact m.budget) ha hk
  rw [← I.conf, e3] at this
  rw [e3]
  exact this

/-- Of any time. -/
theorem Mid.answersAny (m : Mid tm script i h t) : AnsAll script t.c.budget 0 h t.answers ∧ Kin tm script i { h with opn := shut h.opn t.answers } { t with answers := [] } := by
  refine m.answers (fun g I H e1 e2 e3 a ha hk => ?_)
  have := Tier.told_known I H (by rw [e2]; exact fun r hr => (m.now.2 r hr).1) (by rw [e3]; have := m.now.1; omega) ha hk
  rw [← I.conf] at this
  exact this

end Go.Proofs.YtpdkojgepagbnaaDoor
