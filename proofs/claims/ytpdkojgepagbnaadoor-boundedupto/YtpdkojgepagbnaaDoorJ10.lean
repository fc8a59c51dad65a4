/-
  One begins to wait: a new fetch.
-/
import Derived.Test.YtpdkojgepagbnaaDoorJ09
namespace Go.Proofs.YtpdkojgepagbnaaDoor
set_option maxRecDepth 100000
open Go.RowKit
open Tier (Mes Ans Conf)
attribute [local go_sem ↓] Go.wp_at_zero Go.wp_at_succ

theorem Step.fresh {τ : Nat} {own own2 : Own} {w0 w w' : World} {b x : Nat} (T : Turn nothing w0 w) (hb : w0.heap.size ≤ b) (S : Step τ (putO own b (τ, x)) own2 w w') : Step τ own own2 w0 w' := by
  have he : ∀ k, k < w0.heap.size → putO own b (τ, x) k = own k := fun k hk => putO_same (Or.inr hb) hk
  refine ⟨(T.mono (fun _ _ h => False.elim h)).step_turn S.turn (fun k hk ⟨y, hy⟩ => ⟨y, by rw [← he k hk]; exact hy⟩), fun k hk => ?_⟩
  rcases S.same k (Nat.lt_of_lt_of_le hk T.size) with e | ⟨⟨y, hy⟩, e⟩
  · exact Or.inl (e.trans (he k hk))
  · exact Or.inr ⟨⟨y, by rw [← he k hk]; exact hy⟩, e⟩

theorem fetch_fresh (own : Own) (τ bt : Nat) (g : Gh) (s : PS) (n : Nat) (k : ByteArray) (tg : Int) (x : Wt) (b : Nat) (w : World) (h : Lies own τ w bt g s) (hf : s.Fine) (hn : n < 6) (hk : k.size ≤ 100) (hser : s.serial < 1000000000000) (hlen : s.net.length < 1000000000000) (hpar : n < s.c.parents.length)
    (hb : w.heap[b]? = some (.cells #[.int .i64 x.child, .int .i64 x.serial, .int .i64 x.tag, .int .i64 x.id] 105 (0, 0))) (hno : own b = none) :
    Calls Tryd.prog 103 #[.pointer (some ⟨bt, 0, none⟩), placeV (n, k), .int .i64 tg, .slice (some ⟨b, 0, none⟩) 1 1] w fun r w' => r = .returned (.tuple #[]) ∧ ∃ own2 g2, Lies own2 τ w' bt g2 (s.fetch n k tg [x] (.slice (some ⟨b, 0, none⟩) 1 1)) ∧ Step τ (putO own b (τ, 16 + (s.serial + 1).toNat)) own2 w w' ∧ g.Like g2 := by
  refine fetch_new (putO own b (τ, 16 + (s.serial + 1).toNat)) τ bt g s n k tg [x] _ _ _ w ?_ hn hk ⟨hf.small.1, hser⟩ hf.few.2 hlen hpar ?_
  · refine h.frame (fun k' hk' ⟨y, hy⟩ => ⟨rfl, ?_⟩) (fun k' hk' => ?_)
    · unfold putO
      rw [if_neg]
      rintro rfl
      rw [hno] at hy
      cases hy
    · unfold putO
      rw [if_neg (by have := heap_lt hb; omega)]
      exact h.top k' hk'
  · refine ⟨⟨by simp [wtL], Or.inr ⟨b, 1, _, rfl, Nat.zero_le _, hb, Nat.le_refl _, by unfold maxLen; omega, by simp, by simp [wtL]⟩⟩, fun k' hk' => by cases hk'; simp [putO]⟩

set_option maxHeartbeats 4000000 in
theorem wait_new (own : Own) (τ bt : Nat) (g : Gh) (s : PS) (n : Nat) (k : ByteArray) (x : Wt) (w : World) (h : Lies own τ w bt g s) (hf : s.Fine) (hn : n < 6) (h2 : k.size ≤ 100) (hser : s.serial < 1000000000000) (hlen : s.net.length < 1000000000000) (hpar : n < s.c.parents.length) (hful : ¬ s.c.waiters ≤ (waiting n s.fts : Int)) (hg : aget s.fts (n, k) = none) :
    Calls Tryd.prog 84 #[.pointer (some ⟨bt, 0, none⟩), placeV (n, k), wtV x] w fun r w' => r = .returned (.tuple #[]) ∧ ∃ own' g' v, Lies own' τ w' bt g' (s.fetch n k (s.tag n k) [x] v) ∧ Step τ own own' w w' ∧ g.Like g' := by
  have HH := hide h
  have h1 : n < 1000 := by omega
  have KW := hide (fun w (h : Hid (Lies own τ w bt g s)) => Waiting_lies n w h hf)
  have KT := hide (fun w (h : Lies own τ w bt g s) => tag_any own τ bt g s n k w h h1 h2)
  have KF := hide (fun b w (h : Lies own τ w bt g s) hb hno => fetch_fresh own τ bt g s n k (s.tag n k) x b w h hf hn h2 hser hlen hpar hb hno)
  have d13 : w.cell? ⟨bt, 13, none⟩ = some (.map (some g.bq)) := cell_of_cells h.tier.block 13
  have d4 : w.cell? ⟨bt, 4, none⟩ = some (.int .i64 s.c.waiters) := cell_of_cells h.tier.block 4
  have hbq : g.bq < w.heap.size := h.fts.lt
  have htop : Hid (∀ k', w.heap.size ≤ k' → own k' = none) := h.top
  have HK : Hid (∀ w' : World, w'.heap[g.bq]? = w.heap[g.bq]? → (Instr.lookup 95 (.map (some g.bq)) (.agg #[.int .i64 (n : Int), .string k]) true).run Tryd.prog w' = .ok (.tuple #[.agg #[.int .i64 0, .int .i64 0, .slice none 0 0], .bool false]) w') := fun w' e => by
    have := ft_look (h.fts.heap e) h1 h2
    rw [hg] at this
    exact this
  clear h hf hg hser hlen hpar
  generalize waiting n s.fts = wn at *
  generalize hcw : s.c.waiters = cw at *
  generalize hlb : 16 + (s.serial + 1).toNat = lb at *
  generalize htg : s.tag n k = tg at *
  have hxv : wtV x = .agg #[.int .i64 x.child, .int .i64 x.serial, .int .i64 x.tag, .int .i64 x.id] := rfl
  rw [hxv]
  obtain ⟨child, serial, tag, cid⟩ := x
  unfold placeV at *
  dsimp only at *
  clear hxv
  go_enter Tryd.func84, Tryd.ntmps84
  go_wp2
  generalize hW : World.alloc _ _ = W0
  have T0 : Turn nothing w W0 := by rw [← hW]; exact (Turn.alloc _ _ _).step_alloc
  have hsz : W0.heap.size = w.heap.size + 1 + 1 := by rw [← hW]; simp
  have x0 : ∃ ty, W0.heap[w.heap.size]? = some (.cells #[.int .i64 (n : Int), .string k] ty (0, 0)) := by rw [← hW]; exact ⟨_, new2_0 _ _ _⟩
  have x0_0 : W0.cell? ⟨w.heap.size, 0, none⟩ = some (.int .i64 (n : Int)) := by obtain ⟨_, h⟩ := x0; exact cell_of_cells h 0
  have x0_1 : W0.cell? ⟨w.heap.size, 1, none⟩ = some (.string k) := by obtain ⟨_, h⟩ := x0; exact cell_of_cells h 1
  have x1 : ∃ ty, W0.heap[w.heap.size + 1]? = some (.cells #[.int .i64 child, .int .i64 serial, .int .i64 tag, .int .i64 cid] ty (0, 0)) := by rw [← hW]; exact ⟨_, new2_1 _ _ _⟩
  have x1_0 : W0.cell? ⟨w.heap.size + 1, 0, none⟩ = some (.int .i64 child) := by obtain ⟨_, h⟩ := x1; exact cell_of_cells h 0
  have x1_1 : W0.cell? ⟨w.heap.size + 1, 1, none⟩ = some (.int .i64 serial) := by obtain ⟨_, h⟩ := x1; exact cell_of_cells h 1
  have x1_2 : W0.cell? ⟨w.heap.size + 1, 2, none⟩ = some (.int .i64 tag) := by obtain ⟨_, h⟩ := x1; exact cell_of_cells h 2
  have x1_3 : W0.cell? ⟨w.heap.size + 1, 3, none⟩ = some (.int .i64 cid) := by obtain ⟨_, h⟩ := x1; exact cell_of_cells h 3
  have c13 := T0.cell d13 id
  have c4 := T0.cell d4 id
  have HL := hide ((unhide HH).turn T0)
  clear hW d13 d4
  have HS : ∀ w', Turn nothing W0 w' → Turn nothing W0 w' ∧ w'.cell? ⟨bt, 13, none⟩ = some (.map (some g.bq)) ∧ w'.cell? ⟨bt, 4, none⟩ = some (.int .i64 cw) ∧ w'.cell? ⟨w.heap.size, 0, none⟩ = some (.int .i64 (n : Int)) ∧ w'.cell? ⟨w.heap.size, 1, none⟩ = some (.string k) ∧ w'.cell? ⟨w.heap.size + 1, 0, none⟩ = some (.int .i64 child) ∧ w'.cell? ⟨w.heap.size + 1, 1, none⟩ = some (.int .i64 serial) ∧ w'.cell? ⟨w.heap.size + 1, 2, none⟩ = some (.int .i64 tag) ∧ w'.cell? ⟨w.heap.size + 1, 3, none⟩ = some (.int .i64 cid) ∧ (Hid (Lies own τ w' bt g s)) := fun w' T => ⟨T, T.cell c13 id, T.cell c4 id, T.cell x0_0 id, T.cell x0_1 id, T.cell x1_0 id, T.cell x1_1 id, T.cell x1_2 id, T.cell x1_3 id, ((unhide HL).turn T)⟩
  go_region_held3 (fun w' => Turn nothing W0 w' ∧ w'.cell? ⟨bt, 13, none⟩ = some (.map (some g.bq)) ∧ w'.cell? ⟨bt, 4, none⟩ = some (.int .i64 cw) ∧ w'.cell? ⟨w.heap.size, 0, none⟩ = some (.int .i64 (n : Int)) ∧ w'.cell? ⟨w.heap.size, 1, none⟩ = some (.string k) ∧ w'.cell? ⟨w.heap.size + 1, 0, none⟩ = some (.int .i64 child) ∧ w'.cell? ⟨w.heap.size + 1, 1, none⟩ = some (.int .i64 serial) ∧ w'.cell? ⟨w.heap.size + 1, 2, none⟩ = some (.int .i64 tag) ∧ w'.cell? ⟨w.heap.size + 1, 3, none⟩ = some (.int .i64 cid) ∧ (Hid (Lies own τ w' bt g s))) ((go_split_ands; apply HS; all_goals (repeat (first | with_reducible assumption | with_reducible exact Turn.refl _ _ | with_reducible apply Turn.step_alloc | with_reducible apply Turn.step_drew | ((with_reducible refine Turn.step_turn (N := nothing) ?_ (by assumption) ?_); rotate_left; · exact fun _ _ h => False.elim h) | ((with_reducible refine Turn.step_set ?_ ?_); rotate_left; · first | exact Or.inr rfl | exact Or.inr (Or.inl rfl) | exact Or.inl (by simp <;> omega)) | ((with_reducible refine Turn.step_turn ?_ (Turn.grown (by assumption)) ?_); rotate_left; · exact fun _ _ h => Or.inr h) | with_reducible apply There.drew | with_reducible apply There.set | ((with_reducible refine There.turn ?_ (by assumption) ?_); rotate_left; · exact id) | assumption)))) (first | (go_at_call 102; go_split_ands; refine (unhide KW _ (by assumption)).mono ?_; rintro e wq ⟨rfl, TC⟩))
  go_split_ands
  clear HS
  have TW : Turn nothing W0 wq := by assumption
  go_wp2
  have HS : ∀ w', Turn nothing W0 w' → Turn nothing W0 w' ∧ w'.cell? ⟨bt, 13, none⟩ = some (.map (some g.bq)) ∧ w'.cell? ⟨w.heap.size, 0, none⟩ = some (.int .i64 (n : Int)) ∧ w'.cell? ⟨w.heap.size, 1, none⟩ = some (.string k) ∧ w'.cell? ⟨w.heap.size + 1, 0, none⟩ = some (.int .i64 child) ∧ w'.cell? ⟨w.heap.size + 1, 1, none⟩ = some (.int .i64 serial) ∧ w'.cell? ⟨w.heap.size + 1, 2, none⟩ = some (.int .i64 tag) ∧ w'.cell? ⟨w.heap.size + 1, 3, none⟩ = some (.int .i64 cid) ∧ ((Instr.lookup 95 (.map (some g.bq)) (.agg #[.int .i64 (n : Int), .string k]) true).run Tryd.prog w' = .ok (.tuple #[.agg #[.int .i64 0, .int .i64 0, .slice none 0 0], .bool false]) w') := fun w' T => ⟨T, T.cell c13 id, T.cell x0_0 id, T.cell x0_1 id, T.cell x1_0 id, T.cell x1_1 id, T.cell x1_2 id, T.cell x1_3 id, (unhide HK _ ((T.block _ (by omega) id).trans (T0.block _ hbq id)))⟩
  go_region_held3 (fun w' => Turn nothing W0 w' ∧ w'.cell? ⟨bt, 13, none⟩ = some (.map (some g.bq)) ∧ w'.cell? ⟨w.heap.size, 0, none⟩ = some (.int .i64 (n : Int)) ∧ w'.cell? ⟨w.heap.size, 1, none⟩ = some (.string k) ∧ w'.cell? ⟨w.heap.size + 1, 0, none⟩ = some (.int .i64 child) ∧ w'.cell? ⟨w.heap.size + 1, 1, none⟩ = some (.int .i64 serial) ∧ w'.cell? ⟨w.heap.size + 1, 2, none⟩ = some (.int .i64 tag) ∧ w'.cell? ⟨w.heap.size + 1, 3, none⟩ = some (.int .i64 cid) ∧ ((Instr.lookup 95 (.map (some g.bq)) (.agg #[.int .i64 (n : Int), .string k]) true).run Tryd.prog w' = .ok (.tuple #[.agg #[.int .i64 0, .int .i64 0, .slice none 0 0], .bool false]) w')) ((go_split_ands; apply HS; all_goals (repeat (first | with_reducible assumption | with_reducible exact Turn.refl _ _ | with_reducible apply Turn.step_alloc | with_reducible apply Turn.step_drew | ((with_reducible refine Turn.step_turn (N := nothing) ?_ (by assumption) ?_); rotate_left; · exact fun _ _ h => False.elim h) | ((with_reducible refine Turn.step_set ?_ ?_); rotate_left; · first | exact Or.inr rfl | exact Or.inr (Or.inl rfl) | exact Or.inl (by simp <;> omega)) | ((with_reducible refine Turn.step_turn ?_ (Turn.grown (by assumption)) ?_); rotate_left; · exact fun _ _ h => Or.inr h) | with_reducible apply There.drew | with_reducible apply There.set | ((with_reducible refine There.turn ?_ (by assumption) ?_); rotate_left; · exact id) | assumption)))) (fail)
  all_goals go_split_ands
  all_goals clear HS
  all_goals (
    generalize hV : World.drew _ = V
    have TV : Turn nothing W0 V := by rw [← hV]; exact TW.step_alloc.step_drew
    clear hV TC
    have y00 := TV.cell x0_0 id
    have y01 := TV.cell x0_1 id
    have y10 := TV.cell x1_0 id
    have y11 := TV.cell x1_1 id
    have y12 := TV.cell x1_2 id
    have y13 := TV.cell x1_3 id
    have HLV := hide ((unhide HL).turn TV)
    have hVs : w.heap.size + 1 + 1 ≤ V.heap.size := by have := TV.size; omega
    go_wp2
    have hnm : ∀ {b : Nat}, w.heap.size ≤ b → ¬ Mine own τ b := fun hb ⟨y, hy⟩ => by rw [unhide htop _ hb] at hy; cases hy
    have HS : ∀ w', Turn (Mine own τ) V w' → Turn (Mine own τ) V w' ∧ w'.cell? ⟨w.heap.size, 0, none⟩ = some (.int .i64 (n : Int)) ∧ w'.cell? ⟨w.heap.size, 1, none⟩ = some (.string k) ∧ w'.cell? ⟨w.heap.size + 1, 0, none⟩ = some (.int .i64 child) ∧ w'.cell? ⟨w.heap.size + 1, 1, none⟩ = some (.int .i64 serial) ∧ w'.cell? ⟨w.heap.size + 1, 2, none⟩ = some (.int .i64 tag) ∧ w'.cell? ⟨w.heap.size + 1, 3, none⟩ = some (.int .i64 cid) :=
      fun w' T => ⟨T, T.cell y00 (hnm (by dsimp only; omega)), T.cell y01 (hnm (by dsimp only; omega)), T.cell y10 (hnm (by dsimp only; omega)), T.cell y11 (hnm (by dsimp only; omega)), T.cell y12 (hnm (by dsimp only; omega)), T.cell y13 (hnm (by dsimp only; omega))⟩
    go_region_held3 (fun w' => Turn (Mine own τ) V w' ∧ w'.cell? ⟨w.heap.size, 0, none⟩ = some (.int .i64 (n : Int)) ∧ w'.cell? ⟨w.heap.size, 1, none⟩ = some (.string k) ∧ w'.cell? ⟨w.heap.size + 1, 0, none⟩ = some (.int .i64 child) ∧ w'.cell? ⟨w.heap.size + 1, 1, none⟩ = some (.int .i64 serial) ∧ w'.cell? ⟨w.heap.size + 1, 2, none⟩ = some (.int .i64 tag) ∧ w'.cell? ⟨w.heap.size + 1, 3, none⟩ = some (.int .i64 cid))
      ((go_split_ands; apply HS; first | exact SF.turn | (repeat (first | with_reducible assumption | with_reducible exact Turn.refl _ _ | with_reducible apply Turn.step_alloc | with_reducible apply Turn.step_drew | ((with_reducible refine Turn.step_turn (N := nothing) ?_ (by assumption) ?_); rotate_left; · exact fun _ _ h => False.elim h) | ((with_reducible refine Turn.step_set ?_ ?_); rotate_left; · first | exact Or.inr rfl | exact Or.inr (Or.inl rfl) | exact Or.inl (by simp <;> omega)) | ((with_reducible refine Turn.step_turn ?_ (Turn.grown (by assumption)) ?_); rotate_left; · exact fun _ _ h => Or.inr h) | with_reducible apply There.drew | with_reducible apply There.set | ((with_reducible refine There.turn ?_ (by assumption) ?_); rotate_left; · exact id) | assumption))))
      (first
        | (go_at_call 104; go_split_ands; refine (unhide KT _ ((unhide HLV).turn (by (repeat (first | with_reducible assumption | with_reducible exact Turn.refl _ _ | with_reducible apply Turn.step_alloc | with_reducible apply Turn.step_drew | ((with_reducible refine Turn.step_turn (N := nothing) ?_ (by assumption) ?_); rotate_left; · exact fun _ _ h => False.elim h) | ((with_reducible refine Turn.step_set ?_ ?_); rotate_left; · first | exact Or.inr rfl | exact Or.inr (Or.inl rfl) | exact Or.inl (by simp <;> omega)) | ((with_reducible refine Turn.step_turn ?_ (Turn.grown (by assumption)) ?_); rotate_left; · exact fun _ _ h => Or.inr h) | with_reducible apply There.drew | with_reducible apply There.set | ((with_reducible refine There.turn ?_ (by assumption) ?_); rotate_left; · exact id) | assumption))))).mono ?_; rintro e wt ⟨rfl, TC2⟩)
        | (go_at_call 103; go_split_ands; refine (unhide KF _ _ ((unhide HLV).turn (by (repeat (first | with_reducible assumption | with_reducible exact Turn.refl _ _ | with_reducible apply Turn.step_alloc | with_reducible apply Turn.step_drew | ((with_reducible refine Turn.step_turn (N := nothing) ?_ (by assumption) ?_); rotate_left; · exact fun _ _ h => False.elim h) | ((with_reducible refine Turn.step_set ?_ ?_); rotate_left; · first | exact Or.inr rfl | exact Or.inr (Or.inl rfl) | exact Or.inl (by simp <;> omega)) | ((with_reducible refine Turn.step_turn ?_ (Turn.grown (by assumption)) ?_); rotate_left; · exact fun _ _ h => Or.inr h) | with_reducible apply There.drew | with_reducible apply There.set | ((with_reducible refine There.turn ?_ (by assumption) ?_); rotate_left; · exact id) | assumption)))) (by first | exact new1_0 _ _ | exact (TC2.block _ (by simp) id).trans (new1_0 _ _)) (unhide htop _ (by first | omega | (have := TC2.size; simp at this; omega)))).mono ?_; rintro e w4 ⟨rfl, own4, g4, L4, S4, GL4⟩; have SF := Step.fresh (w0 := V) (by (repeat (first | with_reducible assumption | with_reducible exact Turn.refl _ _ | with_reducible apply Turn.step_alloc | with_reducible apply Turn.step_drew | ((with_reducible refine Turn.step_turn (N := nothing) ?_ (by assumption) ?_); rotate_left; · exact fun _ _ h => False.elim h) | ((with_reducible refine Turn.step_set ?_ ?_); rotate_left; · first | exact Or.inr rfl | exact Or.inr (Or.inl rfl) | exact Or.inl (by simp <;> omega)) | ((with_reducible refine Turn.step_turn ?_ (Turn.grown (by assumption)) ?_); rotate_left; · exact fun _ _ h => Or.inr h) | with_reducible apply There.drew | with_reducible apply There.set | ((with_reducible refine There.turn ?_ (by assumption) ?_); rotate_left; · exact id) | assumption))) (by first | exact Nat.le_refl _ | (have := TC2.size; simp at this; omega)) S4))
    all_goals (
      go_split_ands
      have HE := hide (And.intro L4 (And.intro ((Step.of_turn (T0.step_turn TV (fun _ _ h => h))).trans SF) GL4))
      clear L4 S4 SF GL4 HS
      go_wp2
      exact bodyPost_ret (v := .tuple #[]) (by simp [results, Tryd.results84, go_sem]) rfl ⟨rfl, own4, g4, _, (unhide HE).1, (unhide HE).2.1, (unhide HE).2.2⟩))

/-- One must wait. -/
theorem wait_any (own : Own) (τ bt : Nat) (g : Gh) (s : PS) (n : Nat) (k : ByteArray) (x : Wt) (w : World) (h : Lies own τ w bt g s) (hf : s.Fine) (hn : n < 6) (h2 : k.size ≤ 100) (hser : s.serial < 1000000000000) (hl1 : s.net.length < 1000000000000) (hl2 : s.answers.length < 1000000000000) (hpar : n < s.c.parents.length) :
    Calls Tryd.prog 84 #[.pointer (some ⟨bt, 0, none⟩), placeV (n, k), wtV x] w fun r w' => r = .returned (.tuple #[]) ∧ ∃ own' g' v, Lies own' τ w' bt g' (s.wait n k x v) ∧ Step τ own own' w w' ∧ g.Like g' := by
  unfold PS.wait
  by_cases hful : s.c.waiters ≤ (waiting n s.fts : Int)
  · refine (wait_full own τ bt g s n k x w h hf hl1 hl2 hful).mono ?_
    rintro e w' ⟨rfl, own', g', L, S, GL⟩
    exact ⟨rfl, own', g', .bool true, by rw [if_pos hful]; exact L, S, GL⟩
  · cases hg : aget s.fts (n, k) with
    | none =>
      refine (wait_new own τ bt g s n k x w h hf hn h2 hser hl1 hpar hful hg).mono ?_
      rintro e w' ⟨rfl, own', g', v, L, S, GL⟩
      exact ⟨rfl, own', g', v, by rw [if_neg hful]; exact L, S, GL⟩
    | some f =>
      refine (wait_join own τ bt g s n k x f w h hf (by omega) h2 hful hg).mono ?_
      rintro e w' ⟨rfl, own', v, L, S⟩
      exact ⟨rfl, own', g, v, by rw [if_neg hful]; exact L, S, Gh.Like.refl g⟩

end Go.Proofs.YtpdkojgepagbnaaDoor
