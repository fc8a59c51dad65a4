/-
  What stays of a tier while a part of it is written: the net, the answers.
  Of one block a single cell is written.
-/
import Derived.Test.YtpdkojgepagbnaaDoorJ05
import Derived.Test.YtpdkojgepagbnaaDoorJ04
namespace Go.Proofs.YtpdkojgepagbnaaDoor
set_option maxRecDepth 100000
open Go.RowKit
open Tier (Mes Ans Conf)

/-- Of tier τ's blocks those that are not X's stay. -/
structure Fr (X : Nat → Prop) (own own' : Own) (τ : Nat) (w w' : World) : Prop where
  keep : ∀ k, k < w.heap.size → ∀ x, ¬ X x → own k = some (τ, x) → w'.heap[k]? = w.heap[k]? ∧ own' k = own k

theorem Fr.row {X : Nat → Prop} {own own' : Own} {τ : Nat} {w w' : World} (F : Fr X own own' τ w w') {x e size : Nat} {v : Value} {l : List (List Value)} (h : Row own τ x w e size v l) (hx : ¬ X x) : Row own' τ x w' e size v l := h.frame (fun k hk ho => F.keep k hk x hx ho)
theorem Fr.block {X : Nat → Prop} {own own' : Own} {τ : Nat} {w w' : World} (F : Fr X own own' τ w w') {k x : Nat} {o : Obj} (ho : own k = some (τ, x)) (hx : ¬ X x) (hk : w.heap[k]? = some o) : w'.heap[k]? = some o := (F.keep k (heap_lt hk) x hx ho).1.trans hk
theorem Fr.map {X : Nat → Prop} {own own' : Own} {τ : Nat} {w w' : World} (F : Fr X own own' τ w w') {k x ty : Nat} {l : List (Value × Value)} (ho : own k = some (τ, x)) (hx : ¬ X x) (hm : MapIs Tryd.prog ty w k l) : MapIs Tryd.prog ty w' k l := hm.heap (F.keep k hm.lt x hx ho).1
theorem Fr.own {X : Nat → Prop} {own own' : Own} {τ : Nat} {w w' : World} (F : Fr X own own' τ w w') {k x : Nat} (ho : own k = some (τ, x)) (hx : ¬ X x) (hk : k < w.heap.size) : own' k = some (τ, x) := (F.keep k hk x hx ho).2.trans ho

theorem heap_set {w : World} {b i : Nat} {v : Value} {cs : Array Value} {ty : TypeId} {fr : Nat × Nat} (h : w.heap[b]? = some (.cells cs ty fr)) : (w.setCell ⟨b, i, none⟩ v).heap[b]? = some (.cells (cs.setIfInBounds i v) ty fr) := by
  unfold World.setCell
  simp [Array.getElem?_modify, h]

def putO (own : Own) (b : Nat) (x : Nat × Nat) : Own := fun k => if k = b then some x else own k

/-- A row that has grown at its end, where it lay or in a new block, is the tier's own. -/
theorem row_grown {own : Own} {τ x e size : Nat} {w1 w2 : World} {l : List (List Value)} {n : List Value} {gb cap : Nat} (hO : w1.ownsRow 0 e size (.slice (some ⟨gb, 0, none⟩) (l.length + 1) cap) (l.length + 1) (l.flatten ++ n)) (h2 : w2.heap[gb]? = w1.heap[gb]?) :
    Row (putO own gb (τ, x)) τ x w2 e size (.slice (some ⟨gb, 0, none⟩) (l.length + 1) cap) (l ++ [n]) := by
  obtain ⟨hl, hv⟩ := hO
  refine ⟨⟨by simpa using hl, ?_⟩, fun k hk => by cases hk; simp [putO]⟩
  rcases hv with ⟨hv, _⟩ | ⟨g, c, cur, hv, hb, hg, r⟩
  · cases hv
  · cases hv
    exact Or.inr ⟨gb, cap, cur, by simp, hb, h2.trans hg, by simpa using r⟩

theorem putO_same {own : Own} {b : Nat} {x : Nat × Nat} {n : Nat} (h : own b = some x ∨ n ≤ b) {k : Nat} (hk : k < n) : putO own b x k = own k := by
  unfold putO
  split
  · rename_i e
    subst e
    rcases h with h | h
    · exact h.symm
    · omega
  · rfl

/-- The net has grown by a message, and the tier's block tells so. -/
theorem Lies.sent {own : Own} {τ : Nat} {w w1 : World} {bt : Nat} {g : Gh} {s : PS} (h : Lies own τ w bt g s) {m : Mes} {gb cap : Nat}
    (hO : w1.ownsRow 0 23 9 (.slice (some ⟨gb, 0, none⟩) ((s.net.map mesL).length + 1) cap) ((s.net.map mesL).length + 1) ((s.net.map mesL).flatten ++ mesL m)) (hg : w.grownBy w1 g.nv.ownBlock) (hat : g.nv.ownBlock = some gb ∨ gb = w.heap.size) (hlt : gb < w1.heap.size) :
    Lies (putO own gb (τ, 14)) τ (w1.setCell ⟨bt, 15, none⟩ (.slice (some ⟨gb, 0, none⟩) ((s.net.map mesL).length + 1) cap)) bt { g with nv := .slice (some ⟨gb, 0, none⟩) ((s.net.map mesL).length + 1) cap } { s with net := s.net ++ [m] } ∧ Step τ own (putO own gb (τ, 14)) w (w1.setCell ⟨bt, 15, none⟩ (.slice (some ⟨gb, 0, none⟩) ((s.net.map mesL).length + 1) cap)) := by
  generalize hv : Value.slice (some ⟨gb, 0, none⟩) ((s.net.map mesL).length + 1) cap = v at *
  have hgb : own gb = some (τ, 14) ∨ w.heap.size ≤ gb := hat.imp (fun h1 => h.net.mine gb h1) (fun h1 => by omega)
  have hbt : bt ≠ gb := by
    rintro rfl
    rcases hgb with h1 | h1
    · rw [h.tierO] at h1; cases h1
    · have := h.tier.lt; omega
  have hsame : ∀ k, k < w.heap.size → putO own gb (τ, 14) k = own k := fun k hk => putO_same hgb hk
  have hblk : ∀ k, k < w.heap.size → k ≠ bt → some k ≠ g.nv.ownBlock → (w1.setCell ⟨bt, 15, none⟩ v).heap[k]? = w.heap[k]? := fun k hk h1 h2 => (heap_setCell_other h1).trans (hg.block k hk h2)
  have F : Fr (fun x => x = 1 ∨ x = 14) own (putO own gb (τ, 14)) τ w (w1.setCell ⟨bt, 15, none⟩ v) := by
    refine ⟨fun k hk x hx ho => ⟨hblk k hk ?_ ?_, hsame k hk⟩⟩
    · rintro rfl; rw [h.tierO] at ho; cases ho; exact hx (Or.inl rfl)
    · intro e; rw [h.net.mine k e.symm] at ho; cases ho; exact hx (Or.inr rfl)
  have h1 : w1.heap[bt]? = some (.cells (s.ts g).cells 97 (0, 0)) := (hg.block bt h.tier.lt (fun e => by have := h.net.mine bt e.symm; rw [h.tierO] at this; cases this)).trans h.tier.block
  refine ⟨⟨?_, ⟨?_⟩, ?_, F.row h.pars (by omega), F.block h.origO (by omega) h.orig, F.own h.origO (by omega) (heap_lt h.orig), F.map h.recsO (by omega) h.recs, F.own h.recsO (by omega) h.recs.lt, F.block h.entsO (by omega) h.ents, F.own h.entsO (by omega) (heap_lt h.ents), F.map h.foundO (by omega) h.found, F.own h.foundO (by omega) h.found.lt,
    fun i hi => F.row (h.used i hi) (by omega), F.map h.ftsO (by omega) h.fts, F.own h.ftsO (by omega) h.fts.lt, fun p hp => F.row (h.waits p hp) (by omega), ?_, F.row h.ans (by omega)⟩, ⟨⟨hg.os, hg.tape, hg.output, by simpa using hg.size, fun k hk hm => hblk k hk (fun e => hm ⟨1, by rw [e]; exact h.tierO⟩) (fun e => hm ⟨14, h.net.mine k e.symm⟩)⟩, fun k hk => Or.inl (hsame k hk)⟩⟩
  · intro k hk
    have hk1 : w1.heap.size ≤ k := by simpa using hk
    unfold putO
    rw [if_neg (by omega)]
    exact h.top k (by have := hg.size; omega)
  · rw [heap_set h1]; rfl
  · rw [hsame bt h.tier.lt]; exact h.tierO
  · have hr := row_grown (own := own) (τ := τ) (x := 14) (w2 := w1.setCell ⟨bt, 15, none⟩ v) (hv ▸ hO) (heap_setCell_other (Ne.symm hbt))
    rw [hv] at hr
    simpa using hr

/-- The answers have grown by one, and the tier's block tells so. -/
theorem Lies.gave {own : Own} {τ : Nat} {w w1 : World} {bt : Nat} {g : Gh} {s : PS} (h : Lies own τ w bt g s) {m : Ans} {gb cap : Nat}
    (hO : w1.ownsRow 0 56 7 (.slice (some ⟨gb, 0, none⟩) ((s.answers.map ansL).length + 1) cap) ((s.answers.map ansL).length + 1) ((s.answers.map ansL).flatten ++ ansL m)) (hg : w.grownBy w1 g.av.ownBlock) (hat : g.av.ownBlock = some gb ∨ gb = w.heap.size) (hlt : gb < w1.heap.size) :
    Lies (putO own gb (τ, 15)) τ (w1.setCell ⟨bt, 16, none⟩ (.slice (some ⟨gb, 0, none⟩) ((s.answers.map ansL).length + 1) cap)) bt { g with av := .slice (some ⟨gb, 0, none⟩) ((s.answers.map ansL).length + 1) cap } { s with answers := s.answers ++ [m] } ∧ Step τ own (putO own gb (τ, 15)) w (w1.setCell ⟨bt, 16, none⟩ (.slice (some ⟨gb, 0, none⟩) ((s.answers.map ansL).length + 1) cap)) := by
  generalize hv : Value.slice (some ⟨gb, 0, none⟩) ((s.answers.map ansL).length + 1) cap = v at *
  have hgb : own gb = some (τ, 15) ∨ w.heap.size ≤ gb := hat.imp (fun h1 => h.ans.mine gb h1) (fun h1 => by omega)
  have hbt : bt ≠ gb := by
    rintro rfl
    rcases hgb with h1 | h1
    · rw [h.tierO] at h1; cases h1
    · have := h.tier.lt; omega
  have hsame : ∀ k, k < w.heap.size → putO own gb (τ, 15) k = own k := fun k hk => putO_same hgb hk
  have hblk : ∀ k, k < w.heap.size → k ≠ bt → some k ≠ g.av.ownBlock → (w1.setCell ⟨bt, 16, none⟩ v).heap[k]? = w.heap[k]? := fun k hk h1 h2 => (heap_setCell_other h1).trans (hg.block k hk h2)
  have F : Fr (fun x => x = 1 ∨ x = 15) own (putO own gb (τ, 15)) τ w (w1.setCell ⟨bt, 16, none⟩ v) := by
    refine ⟨fun k hk x hx ho => ⟨hblk k hk ?_ ?_, hsame k hk⟩⟩
    · rintro rfl; rw [h.tierO] at ho; cases ho; exact hx (Or.inl rfl)
    · intro e; rw [h.ans.mine k e.symm] at ho; cases ho; exact hx (Or.inr rfl)
  have h1 : w1.heap[bt]? = some (.cells (s.ts g).cells 97 (0, 0)) := (hg.block bt h.tier.lt (fun e => by have := h.ans.mine bt e.symm; rw [h.tierO] at this; cases this)).trans h.tier.block
  refine ⟨⟨?_, ⟨?_⟩, ?_, F.row h.pars (by omega), F.block h.origO (by omega) h.orig, F.own h.origO (by omega) (heap_lt h.orig), F.map h.recsO (by omega) h.recs, F.own h.recsO (by omega) h.recs.lt, F.block h.entsO (by omega) h.ents, F.own h.entsO (by omega) (heap_lt h.ents), F.map h.foundO (by omega) h.found, F.own h.foundO (by omega) h.found.lt,
    fun i hi => F.row (h.used i hi) (by omega), F.map h.ftsO (by omega) h.fts, F.own h.ftsO (by omega) h.fts.lt, fun p hp => F.row (h.waits p hp) (by omega), F.row h.net (by omega), ?_⟩, ⟨⟨hg.os, hg.tape, hg.output, by simpa using hg.size, fun k hk hm => hblk k hk (fun e => hm ⟨1, by rw [e]; exact h.tierO⟩) (fun e => hm ⟨15, h.ans.mine k e.symm⟩)⟩, fun k hk => Or.inl (hsame k hk)⟩⟩
  · intro k hk
    have hk1 : w1.heap.size ≤ k := by simpa using hk
    unfold putO
    rw [if_neg (by omega)]
    exact h.top k (by have := hg.size; omega)
  · rw [heap_set h1]; rfl
  · rw [hsame bt h.tier.lt]; exact h.tierO
  · have hr := row_grown (own := own) (τ := τ) (x := 15) (w2 := w1.setCell ⟨bt, 16, none⟩ v) (hv ▸ hO) (heap_setCell_other (Ne.symm hbt))
    rw [hv] at hr
    simpa using hr

def dropO (own : Own) (x : Nat × Nat) : Own := fun k => if own k = some x then none else own k

/-- A slice that is nobody's of the tiers any more. -/
structure Loose (own : Own) (w : World) (e size : Nat) (v : Value) (l : List (List Value)) : Prop where
  row : w.ownsRow 0 e size v l.length l.flatten
  free : ∀ k, v.ownBlock = some k → own k = none

theorem Loose.step {τ : Nat} {own own' : Own} {w w' : World} {e size : Nat} {v : Value} {l : List (List Value)} (h : Loose own w e size v l) (S : Step τ own own' w w') : Loose own' w' e size v l := by
  have hlt := h.row.lt
  obtain ⟨⟨hl, hv⟩, hm⟩ := h
  refine ⟨⟨hl, ?_⟩, fun k hk => ?_⟩
  · rcases hv with hv | ⟨g, cap, cur, rfl, hb, hg, r⟩
    · exact Or.inl hv
    · exact Or.inr ⟨g, cap, cur, rfl, hb, (S.turn.block g (hlt g rfl).2 (fun ⟨x, hx⟩ => by rw [hm g rfl] at hx; cases hx)).trans hg, r⟩
  · exact S.free (hlt k hk).2 (hm k hk)

theorem mem_adel {κ ε : Type} [DecidableEq κ] {l : List (κ × ε)} {k : κ} {p : κ × ε} (hn : l.Pairwise (fun p q => p.1 ≠ q.1)) (h : p ∈ adel l k) : p ∈ l ∧ p.1 ≠ k := by
  induction l with
  | nil => cases h
  | cons q r ih =>
    obtain ⟨h1, h2⟩ := List.pairwise_cons.1 hn
    unfold adel at h
    split at h
    · rename_i e
      exact ⟨List.mem_cons_of_mem _ h, fun e' => h1 p h (e.trans e'.symm)⟩
    · rename_i e
      rcases List.mem_cons.1 h with rfl | h
      · exact ⟨List.mem_cons_self .., e⟩
      · exact ⟨List.mem_cons_of_mem _ (ih h2 h).1, (ih h2 h).2⟩

/-- A fetch is taken out of the map; its row is nobody's any more. -/
theorem Lies.ended {own : Own} {τ : Nat} {w w1 : World} {bt : Nat} {g : Gh} {s : PS} (h : Lies own τ w bt g s) {k : Nat × ByteArray} {f : Ft} (hf : aget s.fts k = some f) (hap : s.fts.Pairwise (fun p q => p.2.serial ≠ q.2.serial)) (hpos : ∀ p ∈ s.fts, 0 < p.2.serial)
    (hm : MapIs Tryd.prog 100 w1 g.bq (rawL placeV ftV (adel s.fts k))) (ht : w.mapTurned w1 g.bq) :
    ∃ own', Lies own' τ w1 bt g { s with fts := adel s.fts k } ∧ Step τ own own' w w1 ∧ Loose own' w1 105 4 f.v (f.l.map wtL) := by
  have hg := ht.grown
  have hn : s.fts.Pairwise (fun p q => p.1 ≠ q.1) := rawL_apart h.fts.apart
  have hmem := aget_mem hf
  have hd : ∀ {k' x}, own k' = some (τ, x) → x ≠ 16 + f.serial.toNat → dropO own (τ, 16 + f.serial.toNat) k' = own k' := fun {k' x} ho hx => by
    unfold dropO
    rw [if_neg]
    rw [ho]
    intro e
    cases e
    exact hx rfl
  have hblk : ∀ k', k' < w.heap.size → own k' ≠ some (τ, 13) → w1.heap[k']? = w.heap[k']? := fun k' hk ho => hg.block k' hk (fun e => by cases e; exact ho h.ftsO)
  have F : Fr (fun x => x = 13 ∨ x = 16 + f.serial.toNat) own (dropO own (τ, 16 + f.serial.toNat)) τ w w1 :=
    ⟨fun k' hk x hx ho => ⟨hblk k' hk (fun e => by rw [ho] at e; cases e; exact hx (Or.inl rfl)), hd ho (fun e => hx (Or.inr e))⟩⟩
  refine ⟨dropO own (τ, 16 + f.serial.toNat), ⟨?_, ⟨F.block h.tierO (by omega) h.tier.block⟩, F.own h.tierO (by omega) h.tier.lt, F.row h.pars (by omega), F.block h.origO (by omega) h.orig, F.own h.origO (by omega) (heap_lt h.orig), F.map h.recsO (by omega) h.recs, F.own h.recsO (by omega) h.recs.lt, F.block h.entsO (by omega) h.ents, F.own h.entsO (by omega) (heap_lt h.ents), F.map h.foundO (by omega) h.found, F.own h.foundO (by omega) h.found.lt,
    fun i hi => F.row (h.used i hi) (by omega), hm, ?_, fun p hp => ?_, F.row h.net (by omega), F.row h.ans (by omega)⟩, ⟨⟨hg.os, hg.tape, hg.output, hg.size, fun k' hk hm' => hblk k' hk (fun e => hm' ⟨_, e⟩)⟩, fun k' hk => ?_⟩, ?_⟩
  · intro k' hk
    have := h.top k' (Nat.le_trans hg.size hk)
    unfold dropO
    rw [this]
    rfl
  · rw [hd h.ftsO (by omega)]; exact h.ftsO
  · obtain ⟨hp1, hp2⟩ := mem_adel hn hp
    refine F.row (h.waits p hp1) ?_
    have h1 := hpos p hp1
    have h2 := hpos _ hmem
    have h3 : p.2.serial ≠ f.serial := fun e => by
      have := pw_eq (fun p : (Nat × ByteArray) × Ft => p.2.serial) hap hp1 hmem e
      rw [this] at hp2
      exact hp2 rfl
    dsimp only at h2
    omega
  · by_cases e : own k' = some (τ, 16 + f.serial.toNat)
    · exact Or.inr ⟨⟨_, e⟩, Or.inl (by unfold dropO; rw [if_pos e])⟩
    · exact Or.inl (by unfold dropO; rw [if_neg e])
  · have hr := h.waits _ hmem
    have hlt := hr.row.lt
    obtain ⟨⟨hl, hv⟩, hmn⟩ := hr
    refine ⟨⟨hl, ?_⟩, fun k' hk => by unfold dropO; rw [if_pos (hmn k' hk)]⟩
    rcases hv with hv | ⟨gb, cap, cur, hv, hb, hgb, r⟩
    · exact Or.inl hv
    · exact Or.inr ⟨gb, cap, cur, hv, hb, (hblk gb (hlt gb (by dsimp only at hv ⊢; rw [hv]; rfl)).2 (fun e => by
        have := hmn gb (by dsimp only at hv ⊢; rw [hv]; rfl)
        rw [this] at e
        dsimp only at e
        injection e with e
        injection e with e1 e2
        omega)).trans hgb, r⟩

theorem row_form {w : World} {base e size n : Nat} {v : Value} {xs : List Value} (h : w.ownsRow base e size v n xs) : ∃ a c, v = .slice a n c := by
  obtain ⟨_, ⟨rfl, rfl⟩ | ⟨g, cap, cur, rfl, _⟩⟩ := h
  · exact ⟨_, _, rfl⟩
  · exact ⟨_, _, rfl⟩

def moveO (own : Own) (x y : Nat × Nat) : Own := fun k => if own k = some x then some y else own k

theorem mem_aput {κ ε : Type} [DecidableEq κ] {l : List (κ × ε)} {k : κ} {e : ε} {p : κ × ε} (hn : l.Pairwise (fun p q => p.1 ≠ q.1)) (h : p ∈ aput l k e) : (p ∈ l ∧ p.1 ≠ k) ∨ p = (k, e) := by
  induction l with
  | nil => simp [aput] at h; exact Or.inr h
  | cons q r ih =>
    obtain ⟨h1, h2⟩ := List.pairwise_cons.1 hn
    unfold aput at h
    split at h
    · rename_i e'
      rcases List.mem_cons.1 h with h | h
      · exact Or.inr h
      · exact Or.inl ⟨List.mem_cons_of_mem _ h, fun e2 => h1 p h (e'.trans e2.symm)⟩
    · rename_i e'
      rcases List.mem_cons.1 h with rfl | h
      · exact Or.inl ⟨List.mem_cons_self .., e'⟩
      · rcases ih h2 h with ⟨h3, h4⟩ | h3
        · exact Or.inl ⟨List.mem_cons_of_mem _ h3, h4⟩
        · exact Or.inr h3

theorem TS.cells_serial (t : TS) (n : Int) : t.cells.setIfInBounds 14 (.int .i64 n) = ({ t with serial := n } : TS).cells := rfl

/-- The tier behind the new serial and the new fetch: of a row that bears the new serial already. -/
theorem Lies.fetched {own : Own} {τ : Nat} {w w2 : World} {bt : Nat} {g : Gh} {s : PS} (h : Lies own τ w bt g s) {n : Nat} {k : ByteArray} {l : List Wt} {v : Value} {c : Int} (own' : Own)
    (hown : ∀ k', k' < w.heap.size → ∀ x, (x ≤ 15 ∨ ∃ p ∈ s.fts, p.1 ≠ (n, k) ∧ x = 16 + p.2.serial.toNat) → own k' = some (τ, x) → own' k' = own k') (htop : ∀ k', w2.heap.size ≤ k' → own' k' = none)
    (hrow : Row own' τ (16 + (s.serial + 1).toNat) w2 105 4 v (l.map wtL))
    (hm : MapIs Tryd.prog 100 w2 g.bq (rawL placeV ftV (aput s.fts (n, k) ⟨s.serial + 1, c, l, v⟩))) (hb : w2.heap[bt]? = some (.cells ({ s.ts g with serial := s.serial + 1 } : TS).cells 97 (0, 0)))
    (hblk : ∀ k', k' < w.heap.size → k' ≠ bt → k' ≠ g.bq → w2.heap[k']? = w.heap[k']?) :
    Lies own' τ w2 bt g { s with serial := s.serial + 1, fts := aput s.fts (n, k) ⟨s.serial + 1, c, l, v⟩ } := by
  have hn : s.fts.Pairwise (fun p q => p.1 ≠ q.1) := rawL_apart h.fts.apart
  have F : Fr (fun x => ¬ (x ≤ 15 ∧ x ≠ 1 ∧ x ≠ 13 ∨ ∃ p ∈ s.fts, p.1 ≠ (n, k) ∧ x = 16 + p.2.serial.toNat)) own own' τ w w2 := by
    refine ⟨fun k' hk x hx ho => ?_⟩
    have hx' := Classical.not_not.1 hx
    refine ⟨hblk k' hk ?_ ?_, hown k' hk x ?_ ho⟩
    · rintro rfl
      rw [h.tierO] at ho
      cases ho
      rcases hx' with ⟨_, h1, _⟩ | ⟨p, _, _, h1⟩
      · exact h1 rfl
      · omega
    · rintro rfl
      rw [h.ftsO] at ho
      cases ho
      rcases hx' with ⟨_, _, h1⟩ | ⟨p, _, _, h1⟩
      · exact h1 rfl
      · omega
    · exact hx'.imp (fun h1 => h1.1) id
  have low : ∀ {x : Nat}, x ≤ 15 → x ≠ 1 → x ≠ 13 → ¬ ¬ (x ≤ 15 ∧ x ≠ 1 ∧ x ≠ 13 ∨ ∃ p ∈ s.fts, p.1 ≠ (n, k) ∧ x = 16 + p.2.serial.toNat) := fun h1 h2 h3 h4 => h4 (Or.inl ⟨h1, h2, h3⟩)
  refine ⟨htop, ⟨hb⟩, ?_, F.row h.pars (low (by omega) (by omega) (by omega)), F.block h.origO (low (by omega) (by omega) (by omega)) h.orig, F.own h.origO (low (by omega) (by omega) (by omega)) (heap_lt h.orig), F.map h.recsO (low (by omega) (by omega) (by omega)) h.recs, F.own h.recsO (low (by omega) (by omega) (by omega)) h.recs.lt, F.block h.entsO (low (by omega) (by omega) (by omega)) h.ents, F.own h.entsO (low (by omega) (by omega) (by omega)) (heap_lt h.ents), F.map h.foundO (low (by omega) (by omega) (by omega)) h.found, F.own h.foundO (low (by omega) (by omega) (by omega)) h.found.lt,
    fun i hi => F.row (h.used i hi) (low (by omega) (by omega) (by omega)), hm, ?_, fun p hp => ?_, F.row h.net (low (by omega) (by omega) (by omega)), F.row h.ans (low (by omega) (by omega) (by omega))⟩
  · rw [hown bt h.tier.lt 1 (Or.inl (by omega)) h.tierO]; exact h.tierO
  · rw [hown g.bq h.fts.lt 13 (Or.inl (by omega)) h.ftsO]; exact h.ftsO
  · rcases mem_aput hn hp with ⟨hp1, hp2⟩ | rfl
    · exact F.row (h.waits p hp1) (fun h4 => h4 (Or.inr ⟨p, hp1, hp2, rfl⟩))
    · exact hrow

end Go.Proofs.YtpdkojgepagbnaaDoor

namespace Go.Proofs.YtpdkojgepagbnaaDoor
open Go.RowKit

/-- Blocks of M turn, and new ones; of block b0 the cell i alone. -/
structure Turn1 (M : Nat → Prop) (b0 i : Nat) (a c : World) : Prop where
  turn : Turn M a c
  cells : ∀ j, j ≠ i → c.cell? ⟨b0, j, none⟩ = a.cell? ⟨b0, j, none⟩
  lt : b0 < a.heap.size

theorem Turn1.refl {M : Nat → Prop} {b0 i : Nat} {a : World} (h : b0 < a.heap.size) : Turn1 M b0 i a a := ⟨Turn.refl _ _, fun _ _ => rfl, h⟩
theorem Turn1.step_turn {M N : Nat → Prop} {b0 i : Nat} {a c d : World} (h : Turn1 M b0 i a c) (g : Turn N c d) (hs : ∀ k, k < a.heap.size → N k → M k) (hb : ¬ N b0) : Turn1 M b0 i a d :=
  ⟨h.turn.step_turn g hs, fun j hj => (World.cell?_of_block (w := c) (w' := d) (a := ⟨b0, j, none⟩) (g.block b0 (Nat.lt_of_lt_of_le h.lt h.turn.size) hb)).trans (h.cells j hj), h.lt⟩
theorem Turn1.step_drew {M : Nat → Prop} {b0 i : Nat} {a c : World} (h : Turn1 M b0 i a c) : Turn1 M b0 i a c.drew := h.step_turn (Turn.drew nothing _) (fun _ _ h => h.elim) id
theorem Turn1.step_alloc {M : Nat → Prop} {b0 i : Nat} {a c : World} {o : Obj} (h : Turn1 M b0 i a c) : Turn1 M b0 i a (c.alloc o) := h.step_turn (Turn.alloc nothing _ _) (fun _ _ h => h.elim) id
theorem Turn1.step_set {M : Nat → Prop} {b0 i : Nat} {a c : World} {v : Value} (h : Turn1 M b0 i a c) (hm : M b0) : Turn1 M b0 i a (c.setCell ⟨b0, i, none⟩ v) :=
  ⟨h.turn.step_set (Or.inr hm), fun j hj => (World.cell?_setCell_other c ⟨b0, i, none⟩ ⟨b0, j, none⟩ v (by intro e; cases e; exact hj rfl)).trans (h.cells j hj), h.lt⟩
theorem Turn1.cell {M : Nat → Prop} {b0 i : Nat} {a c : World} (h : Turn1 M b0 i a c) {j : Nat} {v : Value} (hc : a.cell? ⟨b0, j, none⟩ = some v) (hj : j ≠ i) : c.cell? ⟨b0, j, none⟩ = some v := by rw [h.cells j hj]; exact hc

end Go.Proofs.YtpdkojgepagbnaaDoor
