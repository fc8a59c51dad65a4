/-
  An entry is stored.
  What a tier becomes behind an answer: as plain data.
  What holds of a tier at all times: sizes, ranges, who may stand where. As plain data.
  An answer, a message: what holds of a tier at all times is kept, and nothing grows by more than five.
-/
import Derived.Test.YtpdkojgepagbnaaDoorJ16
import Derived.Test.YtpdkojgepagbnaaDoorJ15
namespace Go.Proofs.YtpdkojgepagbnaaDoor
open Go.RowKit
open Tier (Mes Ans Conf)

theorem Store_any (own : Own) (τ bt : Nat) (g : Gh) (s : PS) (n : Nat) (k : ByteArray) (e : Ent) (w : World) (h : Lies own τ w bt g s) (hf : s.Fine) (hn : n < 6) (h2 : k.size ≤ 100) (hen : 0 < s.c.entries) (hul : (s.used n).length ≤ 999) (hks : ∀ k ∈ s.used n, k.size ≤ 100) :
    Calls Tryd.prog 112 #[.pointer (some ⟨g.be, 0, none⟩), placeV (n, k), entV e] w fun r w' => r = .returned (.tuple #[]) ∧ ∃ own' g', Lies own' τ w' bt g' (s.store n k e) ∧ Step τ own own' w w' ∧ g.Like g' := by
  unfold PS.store
  cases he : s.entry n k with
  | none => exact Store_none own τ bt g s n k e w h hf hn h2 hen hul hks he
  | some e0 =>
    refine (Store_has own τ bt g s n k e0 e w h hf hn h2 (by omega) he).mono ?_
    rintro r w' ⟨rfl, L, S⟩
    exact ⟨rfl, own, g, L, S, Gh.Like.refl g⟩

/-- Sizes behind it. -/
theorem PS.Fine.store {s : PS} (h : s.Fine) (n : Nat) (k : ByteArray) (e : Ent) (hn : n < 6) (hk : k.size ≤ 4) (he : e.Fine (s.clk n)) (hl : s.found.length < 1000000000000) : (s.store n k e).Fine := by
  have hc : (s.makeRoom n).clk = s.clk := by unfold PS.makeRoom; split <;> rfl
  have hfl : (s.makeRoom n).found.length ≤ s.found.length := by
    unfold PS.makeRoom
    split
    · exact Nat.le_refl _
    · exact (adel_sub _ _).length_le
  have hm := h.makeRoom n
  unfold PS.store
  split
  · exact (h.put n k e hn hk he hl).use n k
  · have h1 : ((s.makeRoom n).keep n k).Fine := hm.talk rfl rfl rfl rfl rfl hm.small.2.2.1 hm.small.2.2.2
    exact (h1.put n k e hn hk (by show e.Fine ((s.makeRoom n).clk n); rw [hc]; exact he) (Nat.lt_of_le_of_lt hfl hl)).use n k

end Go.Proofs.YtpdkojgepagbnaaDoor

namespace Go.Proofs.YtpdkojgepagbnaaDoor
open Tier (Mes Ans Conf)

/-- The tier behind an answer of this base. -/
def PS.learn (s : PS) (n : Nat) (m : Mes) (base : Int) : PS :=
  match s.entry n m.key with
  | none => s.store n m.key ⟨m.ver, m.pres, m.val, base, s.clk n⟩
  | some e =>
    if e.ver < m.ver then s.store n m.key ⟨m.ver, m.pres, m.val, base, s.clk n⟩
    else if e.ver = m.ver ∧ base ≤ ageAt s.c.drift (s.clk n) e then s.store n m.key ⟨e.ver, e.pres, e.val, base, s.clk n⟩
    else s

def PS.tellL (s : PS) (n : Nat) (e : See) (l : List Wt) : PS := l.foldl (fun s x => s.tell n x e) s
def PS.over (s : PS) (n : Nat) (k : ByteArray) : PS := { s with fts := adel s.fts (n, k) }

/-- The fetch is over: all who wait are told by the entry, or refused. -/
def PS.finish (s : PS) (n : Nat) (k : ByteArray) (e : Ent) (l : List Wt) : PS :=
  if ageAt s.c.drift (s.clk n) e ≤ s.c.budget then ((s.use n k).over n k).tellL n (seen k e (ageAt s.c.drift (s.clk n) e)) l
  else ((s.use n k).over n k).refuseL n k l

def PS.answered (s : PS) (n : Nat) (m : Mes) : PS :=
  match aget s.fts (n, m.key) with
  | none => s
  | some f =>
    if f.serial ≠ m.serial then s
    else if m.kind = 4 then (s.over n m.key).refuseL n m.key f.l
    else if m.kind = 3 ∧ s.tag n m.key ≠ m.ver then s.fetch n m.key (-1) f.l f.v
    else
      let u := s.learn n m (m.age + elap s.c.drift (s.clk n - f.sent))
      u.finish n m.key ((u.entry n m.key).getD noEnt) f.l

/-- A message comes. -/
def PS.arrive (s : PS) (m : Mes) (v : Value) : PS :=
  if m.kind ≠ 1 then s.answered m.to.toNat m
  else if m.to = 0 then s.askedOrigin m
  else s.asked m.to.toNat m.key (childOf m) v

def PS.taken (s : PS) (i : Nat) : PS := { s with net := s.net.take i ++ s.net.drop (i + 1) }
def PS.crash (s : PS) (n : Nat) : PS := { s with found := s.found.filter (fun p => decide (p.1.1 ≠ n)), used := (fun m => if m = n then [] else s.used m), fts := s.fts.filter (fun p => decide (p.1.1 ≠ n)) }
def PS.write (s : PS) (k : ByteArray) (p : Int) (v : ByteArray) : PS := { s with recs := aput s.recs k ⟨(s.record k).ver + 1, p, v⟩ }

end Go.Proofs.YtpdkojgepagbnaaDoor

namespace Go.Proofs.YtpdkojgepagbnaaDoor
open Tier (Mes Ans Conf)

/-- One who may wait. -/
def WtOK (c : Conf) (x : Wt) : Prop := 0 ≤ x.child ∧ x.child < c.parents.length
/-- A message that may be under way. -/
structure MesOK (c : Conf) (m : Mes) : Prop where
  key : m.key.size ≤ 4
  to0 : 0 ≤ m.to
  to1 : m.to < c.parents.length
  toC : m.kind ≠ 1 → 0 < m.to
  frm : m.kind = 1 → 0 < m.frm ∧ m.frm < c.parents.length
  age0 : 0 ≤ m.age
  age1 : m.age ≤ 1000000
  ver : m.kind ≠ 1 → 0 ≤ m.ver
  kinds : m.kind = 1 ∨ m.kind = 2 ∨ m.kind = 3 ∨ m.kind = 4

structure PS.Sane (s : PS) : Prop where
  drift : 0 ≤ s.c.drift ∧ s.c.drift ≤ 500000
  clk : ∀ n, 0 ≤ s.clk n ∧ s.clk n ≤ 1099511627776
  budget : 1 ≤ s.c.budget ∧ s.c.budget ≤ 1000000
  entries : 1 ≤ s.c.entries ∧ s.c.entries ≤ 4
  waiters : 1 ≤ s.c.waiters ∧ s.c.waiters ≤ 4
  len : 2 ≤ s.c.parents.length ∧ s.c.parents.length ≤ 6
  up : ∀ n : Nat, 0 < n → n < s.c.parents.length → 0 ≤ s.c.parents.getD n 0 ∧ s.c.parents.getD n 0 < s.c.parents.length
  ents : ∀ p ∈ s.found, p.2.Fine (s.clk p.1.1) ∧ 0 ≤ p.2.ver ∧ p.1.1 < s.c.parents.length ∧ p.1.2.size ≤ 4
  fts : ∀ p ∈ s.fts, (0 < p.1.1 ∧ p.1.1 < s.c.parents.length) ∧ p.1.2.size ≤ 4 ∧ 0 < p.2.serial ∧ p.2.serial ≤ s.serial ∧ 0 ≤ p.2.sent ∧ p.2.sent ≤ s.clk p.1.1 ∧ ∀ x ∈ p.2.l, WtOK s.c x
  apart : s.fts.Pairwise (fun p q => p.2.serial ≠ q.2.serial)
  keys : s.fts.Pairwise (fun p q => p.1 ≠ q.1)
  wait : ∀ n, (waiting n s.fts : Int) ≤ s.c.waiters
  serial : 0 ≤ s.serial
  used : ∀ n, ((s.used n).length : Int) ≤ s.c.entries ∧ ∀ k ∈ s.used n, k.size ≤ 4
  net : ∀ m ∈ s.net, MesOK s.c m
  recs : ∀ p ∈ s.recs, 0 ≤ p.2.ver

/-- No more of anything than b. -/
structure PS.Few (s : PS) (b : Nat) : Prop where
  found : s.found.length ≤ b
  fts : s.fts.length ≤ b
  serial : s.serial ≤ b
  net : s.net.length ≤ b
  answers : s.answers.length ≤ b

theorem PS.Few.mono {s : PS} {a b : Nat} (h : s.Few a) (hab : a ≤ b) : s.Few b := ⟨Nat.le_trans h.found hab, Nat.le_trans h.fts hab, by have := h.serial; omega, Nat.le_trans h.net hab, Nat.le_trans h.answers hab⟩

theorem waiting_mem {n : Nat} : ∀ {l : List ((Nat × ByteArray) × Ft)} {p}, p ∈ l → p.1.1 = n → p.2.l.length ≤ waiting n l
  | [], _, h, _ => by cases h
  | q :: r, p, h, hn => by
    unfold waiting
    simp only [List.map_cons, List.sum_cons]
    rcases List.mem_cons.1 h with h | h
    · subst h; rw [if_pos hn]; omega
    · have := waiting_mem h hn
      unfold waiting at this
      omega

theorem PS.Sane.wl {s : PS} (h : s.Sane) {p} (hp : p ∈ s.fts) : p.2.l.length ≤ 4 := by
  have h1 := waiting_mem hp rfl
  have h2 := h.wait p.1.1
  have h3 := h.waiters
  omega

theorem PS.Sane.fine {s : PS} (h : s.Sane) {b : Nat} (hb : s.Few b) (hl : b ≤ 1000000000000) : s.Fine := by
  have h6 := h.len
  refine ⟨fun g => ⟨h.drift.1, h.drift.2, fun n => (h.clk n).1, fun n => (h.clk n).2⟩, fun p hp => ?_, fun p hp => ?_, h.apart, ⟨Nat.le_trans hb.found hl, Nat.le_trans hb.fts hl⟩, ⟨h.serial, by have := hb.serial; omega, Nat.le_trans hb.net hl, Nat.le_trans hb.answers hl⟩⟩
  · obtain ⟨a, _, b, c⟩ := h.ents p hp
    exact ⟨a, by omega, c⟩
  · obtain ⟨a, b, c, d, e, f, _⟩ := h.fts p hp
    exact ⟨by omega, b, c, d, e, f, Nat.le_trans (h.wl hp) (by omega)⟩

/-- What only speaks. -/
theorem PS.Sane.talk {s s' : PS} (h : s.Sane) (hc : s'.c = s.c) (hk : s'.clk = s.clk) (hf : s'.found = s.found) (hu : s'.used = s.used) (ht : s'.fts = s.fts) (hs : s'.serial = s.serial) (hr : s'.recs = s.recs) (hn : ∀ m ∈ s'.net, MesOK s.c m) : s'.Sane := by
  obtain ⟨a1, a2, a3, a4, a5, a6, a7, a8, a9, b1, b2, b3, b4, b5, b6, b7⟩ := h
  refine ⟨by rw [hc]; exact a1, by rw [hk]; exact a2, by rw [hc]; exact a3, by rw [hc]; exact a4, by rw [hc]; exact a5, by rw [hc]; exact a6, by rw [hc]; exact a7, by rw [hf, hk, hc]; exact a8, by rw [ht, hk, hc, hs]; exact a9, by rw [ht]; exact b1, by rw [ht]; exact b2, by rw [ht, hc]; exact b3, by rw [hs]; exact b4, by rw [hu, hc]; exact b5, by rw [hc]; exact hn, by rw [hr]; exact b7⟩

theorem mem_snoc {α : Type} {l : List α} {x y : α} (h : y ∈ l ++ [x]) : y ∈ l ∨ y = x := by simpa using h

theorem PS.Sane.refuse {s : PS} (h : s.Sane) {n : Nat} {k : ByteArray} {x : Wt} (hk : k.size ≤ 4) (hx : WtOK s.c x) : (s.refuse n k x).Sane := by
  unfold PS.refuse
  split
  · exact h.talk rfl rfl rfl rfl rfl rfl rfl h.net
  · next hc =>
    refine h.talk rfl rfl rfl rfl rfl rfl rfl (fun m hm => ?_)
    rcases mem_snoc hm with hm | rfl
    · exact h.net m hm
    · have := hx.1
      exact ⟨hk, hx.1, hx.2, fun _ => by show 0 < x.child; omega, fun e => absurd (show (4 : Int) = 1 from e) (by decide), Int.le_refl _, by show (0 : Int) ≤ 1000000; decide, fun _ => Int.le_refl _, Or.inr (Or.inr (Or.inr rfl))⟩

theorem PS.Sane.tell {s : PS} (h : s.Sane) {n : Nat} {x : Wt} {e : See} (hk : e.key.size ≤ 4) (hv : 0 ≤ e.ver) (ha : 0 ≤ e.age ∧ e.age ≤ 1000000) (hx : WtOK s.c x) : (s.tell n x e).Sane := by
  unfold PS.tell
  split
  · exact h.talk rfl rfl rfl rfl rfl rfl rfl h.net
  · next hc =>
    have h0 := hx.1
    split
    · refine h.talk rfl rfl rfl rfl rfl rfl rfl (fun m hm => ?_)
      rcases mem_snoc hm with hm | rfl
      · exact h.net m hm
      · exact ⟨hk, hx.1, hx.2, fun _ => by show 0 < x.child; omega, fun e => absurd (show (3 : Int) = 1 from e) (by decide), ha.1, ha.2, fun _ => hv, Or.inr (Or.inr (Or.inl rfl))⟩
    · refine h.talk rfl rfl rfl rfl rfl rfl rfl (fun m hm => ?_)
      rcases mem_snoc hm with hm | rfl
      · exact h.net m hm
      · exact ⟨hk, hx.1, hx.2, fun _ => by show 0 < x.child; omega, fun e => absurd (show (2 : Int) = 1 from e) (by decide), ha.1, ha.2, fun _ => hv, Or.inr (Or.inl rfl)⟩

theorem useL_mem {k x : ByteArray} {l : List ByteArray} (h : x ∈ useL k l) : x = k ∨ x ∈ l := by
  unfold useL at h
  split at h
  · exact Or.inr h
  · rcases List.mem_cons.1 h with h | h
    · exact Or.inl h
    · rcases List.mem_append.1 h with h | h
      · exact Or.inr (List.mem_of_mem_take h)
      · exact Or.inr (List.mem_of_mem_drop h)

/-- Entries and what is used change. -/
theorem PS.Sane.entsStep {s s' : PS} (h : s.Sane) (hc : s'.c = s.c) (hk : s'.clk = s.clk) (ht : s'.fts = s.fts) (hs : s'.serial = s.serial) (hr : s'.recs = s.recs) (hn : s'.net = s.net) (he : ∀ p ∈ s'.found, p.2.Fine (s.clk p.1.1) ∧ 0 ≤ p.2.ver ∧ p.1.1 < s.c.parents.length ∧ p.1.2.size ≤ 4) (hu : ∀ n, ((s'.used n).length : Int) ≤ s.c.entries ∧ ∀ k ∈ s'.used n, k.size ≤ 4) : s'.Sane := by
  obtain ⟨a1, a2, a3, a4, a5, a6, a7, a8, a9, b1, b2, b3, b4, b5, b6, b7⟩ := h
  refine ⟨by rw [hc]; exact a1, by rw [hk]; exact a2, by rw [hc]; exact a3, by rw [hc]; exact a4, by rw [hc]; exact a5, by rw [hc]; exact a6, by rw [hc]; exact a7, by rw [hk, hc]; exact he, by rw [ht, hk, hc, hs]; exact a9, by rw [ht]; exact b1, by rw [ht]; exact b2, by rw [ht, hc]; exact b3, by rw [hs]; exact b4, by rw [hc]; exact hu, by rw [hn, hc]; exact b6, by rw [hr]; exact b7⟩

theorem PS.Sane.use {s : PS} (h : s.Sane) {n : Nat} {k : ByteArray} (hk : k.size ≤ 4) : (s.use n k).Sane := by
  refine h.entsStep rfl rfl rfl rfl rfl rfl h.ents (fun m => ?_)
  rw [PS.use_length]
  refine ⟨(h.used m).1, fun x hx => ?_⟩
  have hx : x ∈ if m = n then useL k (s.used n) else s.used m := hx
  split at hx
  · rcases useL_mem hx with e | e
    · rw [e]; exact hk
    · exact (h.used n).2 x e
  · exact (h.used m).2 x hx

theorem PS.Sane.put {s : PS} (h : s.Sane) {n : Nat} {k : ByteArray} {e : Ent} (hn : n < s.c.parents.length) (hk : k.size ≤ 4) (he : e.Fine (s.clk n)) (hv : 0 ≤ e.ver) : PS.Sane { s with found := aput s.found (n, k) e } := by
  refine h.entsStep rfl rfl rfl rfl rfl rfl (fun p hp => ?_) h.used
  rcases of_aput hp with e | e
  · subst e; exact ⟨he, hv, hn, hk⟩
  · exact h.ents p e

theorem PS.Sane.store {s : PS} (h : s.Sane) {n : Nat} {k : ByteArray} {e : Ent} (hn : n < s.c.parents.length) (hk : k.size ≤ 4) (he : e.Fine (s.clk n)) (hv : 0 ≤ e.ver) : (s.store n k e).Sane := by
  unfold PS.store
  split
  · exact (h.put hn hk he hv).use hk
  · have h1 : ((s.makeRoom n).keep n k).Sane ∧ ((s.makeRoom n).keep n k).c = s.c ∧ ((s.makeRoom n).keep n k).clk = s.clk := by
      have hu := h.used n
      unfold PS.makeRoom
      split
      · next hl =>
        refine ⟨h.entsStep rfl rfl rfl rfl rfl rfl h.ents (fun m => ?_), rfl, rfl⟩
        show (((if m = n then s.used n ++ [k] else s.used m).length : Nat) : Int) ≤ _ ∧ ∀ x ∈ (if m = n then s.used n ++ [k] else s.used m), x.size ≤ 4
        split
        · refine ⟨by simp; omega, fun x hx => ?_⟩
          rcases mem_snoc hx with hx | rfl
          · exact hu.2 x hx
          · exact hk
        · exact h.used m
      · refine ⟨h.entsStep rfl rfl rfl rfl rfl rfl (fun p hp => h.ents p ((adel_sub _ _).subset hp)) (fun m => ?_), rfl, rfl⟩
        show (((if m = n then (if n = n then (s.used n).dropLast else s.used n) ++ [k] else (if m = n then (s.used n).dropLast else s.used m)).length : Nat) : Int) ≤ _ ∧ ∀ x ∈ (if m = n then (if n = n then (s.used n).dropLast else s.used n) ++ [k] else (if m = n then (s.used n).dropLast else s.used m)), x.size ≤ 4
        split
        · rw [if_pos rfl]
          have h4 := h.entries.1
          refine ⟨by simp; omega, fun x hx => ?_⟩
          rcases mem_snoc hx with hx | rfl
          · exact hu.2 x (List.dropLast_subset _ hx)
          · exact hk
        · exact h.used m
    have h2 : PS.Sane { (s.makeRoom n).keep n k with found := aput ((s.makeRoom n).keep n k).found (n, k) e } := h1.1.put (by rw [h1.2.1]; exact hn) hk (by rw [h1.2.2]; exact he) hv
    exact h2.use hk

theorem waiting_perm {n : Nat} {l l' : List ((Nat × ByteArray) × Ft)} (h : l.Perm l') : waiting n l = waiting n l' := (h.map _).sum_nat

theorem adel_apart {l : List ((Nat × ByteArray) × Ft)} (h : l.Pairwise (fun p q => p.2.serial ≠ q.2.serial)) (k) : (adel l k).Pairwise (fun p q => p.2.serial ≠ q.2.serial) := h.sublist (adel_sub _ _)

theorem waiting_adel (n m : Nat) (k : ByteArray) : ∀ (l : List ((Nat × ByteArray) × Ft)) (f : Ft), aget l (n, k) = some f → waiting m (adel l (n, k)) + (if m = n then f.l.length else 0) = waiting m l
  | [], f, h => by rw [aget_nil] at h; cases h
  | q :: r, f, h => by
    rw [aget_cons] at h
    unfold adel
    split
    · next e =>
      rw [if_pos e] at h
      cases h
      unfold waiting
      simp only [List.map_cons, List.sum_cons, e]
      by_cases hm : n = m
      · subst hm; simp; omega
      · rw [if_neg hm, if_neg (Ne.symm hm)]; omega
    · next e =>
      rw [if_neg e] at h
      have := waiting_adel n m k r f h
      unfold waiting at *
      simp only [List.map_cons, List.sum_cons]
      omega

theorem waiting_sub {m : Nat} {l l' : List ((Nat × ByteArray) × Ft)} (h : l'.Sublist l) : waiting m l' ≤ waiting m l := by
  induction h with
  | slnil => exact Nat.le_refl _
  | cons a _ ih => unfold waiting at *; simp only [List.map_cons, List.sum_cons]; omega
  | cons_cons a _ ih => unfold waiting at *; simp only [List.map_cons, List.sum_cons]; omega

/-- Fetches change. -/
theorem PS.Sane.ftsStep {s : PS} (h : s.Sane) {F : List ((Nat × ByteArray) × Ft)} {S : Int} {N : List Mes} (hS : 0 ≤ S) (hF : ∀ p ∈ F, (0 < p.1.1 ∧ p.1.1 < s.c.parents.length) ∧ p.1.2.size ≤ 4 ∧ 0 < p.2.serial ∧ p.2.serial ≤ S ∧ 0 ≤ p.2.sent ∧ p.2.sent ≤ s.clk p.1.1 ∧ ∀ x ∈ p.2.l, WtOK s.c x) (ha : F.Pairwise (fun p q => p.2.serial ≠ q.2.serial)) (hk : F.Pairwise (fun p q => p.1 ≠ q.1)) (hw : ∀ n, (waiting n F : Int) ≤ s.c.waiters) (hn : ∀ m ∈ N, MesOK s.c m) : PS.Sane { s with fts := F, serial := S, net := N } :=
  ⟨h.drift, h.clk, h.budget, h.entries, h.waiters, h.len, h.up, h.ents, hF, ha, hk, hw, hS, h.used, hn, h.recs⟩

theorem PS.Sane.over {s : PS} (h : s.Sane) (n : Nat) (k : ByteArray) : (s.over n k).Sane :=
  h.ftsStep h.serial (fun p hp => h.fts p ((adel_sub _ _).subset hp)) (adel_apart h.apart _) (h.keys.sublist (adel_sub _ _)) (fun m => Int.le_trans (Int.ofNat_le.2 (waiting_sub (adel_sub _ _))) (h.wait m)) h.net

theorem aput_keys0 {κ ε : Type} [DecidableEq κ] {k : κ} {e : ε} : ∀ {l : List (κ × ε)}, l.Pairwise (fun p q => p.1 ≠ q.1) → (aput l k e).Pairwise (fun p q => p.1 ≠ q.1)
  | [], _ => List.pairwise_singleton _ _
  | q :: r, h => by
    obtain ⟨h1, h2⟩ := List.pairwise_cons.1 h
    unfold aput
    split
    · next hq => exact List.pairwise_cons.2 ⟨fun p hp => hq ▸ h1 p hp, h2⟩
    · next hq =>
      refine List.pairwise_cons.2 ⟨fun p hp => ?_, aput_keys0 h2⟩
      rcases of_aput hp with e | e
      · subst e; exact hq
      · exact h1 p e

theorem aput_perm0 {κ ε : Type} [DecidableEq κ] (k : κ) (e : ε) : ∀ (l : List (κ × ε)), (aput l k e).Perm (adel l k ++ [(k, e)])
  | [] => List.Perm.refl _
  | q :: r => by
    unfold aput adel
    split
    · exact (List.perm_append_comm (l₁ := [(k, e)]) (l₂ := r))
    · exact (aput_perm0 k e r).cons q

theorem waiting_put (n m : Nat) (k : ByteArray) (f : Ft) (l : List ((Nat × ByteArray) × Ft)) : waiting m (aput l (n, k) f) = waiting m (adel l (n, k)) + (if m = n then f.l.length else 0) := by
  rw [waiting_perm (aput_perm0 (n, k) f l)]
  unfold waiting
  rw [List.map_append, List.sum_append]
  by_cases hm : n = m
  · subst hm; simp
  · simp [hm, Ne.symm hm]

/-- A fetch is sent. -/
theorem PS.Sane.fetch {s : PS} (h : s.Sane) {n : Nat} {k : ByteArray} {tg : Int} {l : List Wt} {v : Value} (hn : 0 < n) (hl : n < s.c.parents.length) (hk : k.size ≤ 4) (hw : ∀ x ∈ l, WtOK s.c x) (hc : (waiting n (adel s.fts (n, k)) : Int) + l.length ≤ s.c.waiters) : (s.fetch n k tg l v).Sane := by
  have hup := h.up n hn hl
  refine h.ftsStep (by have := h.serial; omega) (fun p hp => ?_) (aput_apart Ft.serial h.apart (fun p hp => ?_)) (aput_keys0 h.keys) (fun m => ?_) (fun m hm => ?_)
  · rcases of_aput hp with e | e
    · subst e
      exact ⟨⟨hn, hl⟩, hk, by have := h.serial; show 0 < s.serial + 1; omega, Int.le_refl _, (h.clk n).1, Int.le_refl _, hw⟩
    · obtain ⟨a, b, c, d, r⟩ := h.fts p e
      exact ⟨a, b, c, by omega, r⟩
  · have := (h.fts p hp).2.2.2.1
    show p.2.serial ≠ s.serial + 1
    omega
  · rw [waiting_put]
    split
    · next e => subst e; push_cast; exact hc
    · have := waiting_sub (m := m) (adel_sub s.fts (n, k))
      have := h.wait m
      omega
  · rcases mem_snoc hm with hm | rfl
    · exact h.net m hm
    · exact ⟨hk, hup.1, hup.2, fun e => absurd rfl e, fun _ => ⟨by show (0 : Int) < n; omega, by show (n : Int) < _; omega⟩, Int.le_refl _, by show (0 : Int) ≤ 1000000; decide, fun e => absurd rfl e, Or.inl rfl⟩

/-- One more waits. -/
theorem PS.Sane.join {s : PS} (h : s.Sane) {n : Nat} {k : ByteArray} {f : Ft} {x : Wt} {v : Value} (hf : aget s.fts (n, k) = some f) (hx : WtOK s.c x) (hc : (waiting n s.fts : Int) < s.c.waiters) : PS.Sane { s with fts := aput s.fts (n, k) ⟨f.serial, f.sent, f.l ++ [x], v⟩ } := by
  refine h.ftsStep h.serial (fun p hp => ?_) ?_ (aput_keys0 h.keys) (fun m => ?_) h.net
  · rcases of_aput hp with e | e
    · subst e
      obtain ⟨a, b, c, d, e, g, i⟩ := h.fts _ (aget_mem hf)
      refine ⟨a, b, c, d, e, g, fun y hy => ?_⟩
      rcases mem_snoc hy with hy | rfl
      · exact i y hy
      · exact hx
    · exact h.fts p e
  · have e := aput_map Ft.serial (o := f) (e := (⟨f.serial, f.sent, f.l ++ [x], v⟩ : Ft)) rfl hf
    have h4' : (s.fts.map fun p => p.2.serial).Pairwise (· ≠ ·) := List.pairwise_map.2 h.apart
    rw [← e] at h4'
    exact List.pairwise_map.1 h4'
  · rw [waiting_put]
    have h1 := waiting_adel n m k s.fts f hf
    have h2 := h.wait m
    split
    · next e => subst e; rw [if_pos rfl] at h1; simp; omega
    · next e => rw [if_neg e] at h1; omega

theorem PS.Sane.wait' {s : PS} (h : s.Sane) {n : Nat} {k : ByteArray} {x : Wt} {v : Value} (hn : 0 < n) (hl : n < s.c.parents.length) (hk : k.size ≤ 4) (hx : WtOK s.c x) : (s.wait n k x v).Sane := by
  unfold PS.wait
  split
  · exact h.refuse hk hx
  · next hq =>
    split
    · refine h.fetch hn hl hk (fun y hy => by rw [List.mem_singleton.1 hy]; exact hx) ?_
      have := waiting_sub (m := n) (adel_sub s.fts (n, k))
      simp
      omega
    · next f hf => exact h.join hf hx (by omega)

theorem elap_le' {s : PS} (h : s.Sane) {n : Nat} {c : Int} (h0 : 0 ≤ c) (h1 : c ≤ s.clk n) : 0 ≤ elap s.c.drift (s.clk n - c) ∧ elap s.c.drift (s.clk n - c) ≤ 2199023255554 := by
  have := elap_le (drift := s.c.drift) (d := s.clk n - c) (by omega) (by have := (h.clk n).2; omega) h.drift.1 h.drift.2
  omega

theorem age_nonneg {s : PS} (h : s.Sane) {n : Nat} {e : Ent} (he : e.Fine (s.clk n)) : 0 ≤ ageAt s.c.drift (s.clk n) e := by
  have := (elap_le' h he.s0 he.s1).1
  unfold ageAt
  have := he.b0
  omega

theorem PS.Sane.asked {s : PS} (h : s.Sane) {n : Nat} {k : ByteArray} {x : Wt} {v : Value} (hn : 0 < n) (hl : n < s.c.parents.length) (hk : k.size ≤ 4) (hx : WtOK s.c x) : (s.asked n k x v).Sane := by
  unfold PS.asked
  split
  · exact h.wait' hn hl hk hx
  · next e he =>
    obtain ⟨a, b, _⟩ := h.ents _ (aget_mem he)
    split
    · next hb => exact (h.use hk).tell hk b ⟨age_nonneg h a, Int.le_trans hb h.budget.2⟩ hx
    · exact h.wait' hn hl hk hx

theorem PS.Sane.refuseL {n : Nat} {k : ByteArray} (hk : k.size ≤ 4) : ∀ (l : List Wt) {s : PS}, s.Sane → (∀ x ∈ l, WtOK s.c x) → (s.refuseL n k l).Sane
  | [], _, h, _ => h
  | x :: l, s, h, hx => by
    have hc : (s.refuse n k x).c = s.c := by unfold PS.refuse; split <;> rfl
    have := PS.Sane.refuseL (n := n) hk l (h.refuse (n := n) hk (hx x (by simp))) (fun y hy => by rw [hc]; exact hx y (by simp [hy]))
    exact this

theorem PS.Sane.tellL {n : Nat} {e : See} (hk : e.key.size ≤ 4) (hv : 0 ≤ e.ver) (ha : 0 ≤ e.age ∧ e.age ≤ 1000000) : ∀ (l : List Wt) {s : PS}, s.Sane → (∀ x ∈ l, WtOK s.c x) → (s.tellL n e l).Sane
  | [], _, h, _ => h
  | x :: l, s, h, hx => by
    have hc : (s.tell n x e).c = s.c := by unfold PS.tell; split <;> first | rfl | (split <;> rfl)
    have := PS.Sane.tellL (n := n) hk hv ha l (h.tell (n := n) hk hv ha (hx x (by simp))) (fun y hy => by rw [hc]; exact hx y (by simp [hy]))
    exact this

end Go.Proofs.YtpdkojgepagbnaaDoor

namespace Go.Proofs.YtpdkojgepagbnaaDoor
open Tier (Mes Ans Conf)

/-- What a step of entries leaves. -/
structure PS.Keeps (s s' : PS) : Prop where
  c : s'.c = s.c
  recs : s'.recs = s.recs
  clk : s'.clk = s.clk
  fts : s'.fts = s.fts
  serial : s'.serial = s.serial
  net : s'.net = s.net
  answers : s'.answers = s.answers
theorem PS.Keeps.refl (s : PS) : s.Keeps s := ⟨rfl, rfl, rfl, rfl, rfl, rfl, rfl⟩

theorem PS.keeps_store (s : PS) (n : Nat) (k : ByteArray) (e : Ent) : s.Keeps (s.store n k e) := by
  unfold PS.store
  split
  · exact ⟨rfl, rfl, rfl, rfl, rfl, rfl, rfl⟩
  · unfold PS.makeRoom
    split <;> exact ⟨rfl, rfl, rfl, rfl, rfl, rfl, rfl⟩

theorem PS.entry_store (s : PS) (n : Nat) (k : ByteArray) (e : Ent) : (s.store n k e).entry n k = some e := by
  unfold PS.store
  split
  · show aget (aput s.found (n, k) e) (n, k) = _
    rw [aget_aput, if_pos rfl]
  · show aget (aput (s.makeRoom n).found (n, k) e) (n, k) = _
    rw [aget_aput, if_pos rfl]

theorem PS.found_store (s : PS) (n : Nat) (k : ByteArray) (e : Ent) : (s.store n k e).found.length ≤ s.found.length + 1 := by
  unfold PS.store
  split
  · exact aput_length _ _ _
  · show (aput (s.makeRoom n).found (n, k) e).length ≤ _
    have h1 := aput_length (s.makeRoom n).found (n, k) e
    have h2 : (s.makeRoom n).found.length ≤ s.found.length := by
      unfold PS.makeRoom
      split
      · exact Nat.le_refl _
      · exact adel_length _ _
    omega

theorem PS.keeps_learn (s : PS) (n : Nat) (m : Mes) (b : Int) : s.Keeps (s.learn n m b) := by
  unfold PS.learn
  split
  · exact s.keeps_store _ _ _
  · split
    · exact s.keeps_store _ _ _
    · split
      · exact s.keeps_store _ _ _
      · exact PS.Keeps.refl s

theorem PS.found_learn (s : PS) (n : Nat) (m : Mes) (b : Int) : (s.learn n m b).found.length ≤ s.found.length + 1 := by
  unfold PS.learn
  split
  · exact s.found_store _ _ _
  · split
    · exact s.found_store _ _ _
    · split
      · exact s.found_store _ _ _
      · omega

theorem PS.entry_learn (s : PS) (n : Nat) (m : Mes) (b : Int) : ∃ e, (s.learn n m b).entry n m.key = some e := by
  unfold PS.learn
  cases he : s.entry n m.key with
  | none => exact ⟨_, s.entry_store _ _ _⟩
  | some e =>
    dsimp only
    split
    · exact ⟨_, s.entry_store _ _ _⟩
    · split
      · exact ⟨_, s.entry_store _ _ _⟩
      · exact ⟨e, he⟩

theorem PS.Sane.learn {s : PS} (h : s.Sane) {n : Nat} {m : Mes} {b : Int} (hn : n < s.c.parents.length) (hk : m.key.size ≤ 4) (hv : 0 ≤ m.ver) (hb : 0 ≤ b ∧ b ≤ 4398046511104) : (s.learn n m b).Sane := by
  have hck := h.clk n
  have h1 : ∀ (v p : Int) (x : ByteArray), Ent.Fine ⟨v, p, x, b, s.clk n⟩ (s.clk n) := fun v p x => ⟨hb.1, hb.2, hck.1, Int.le_refl _, hck.2⟩
  unfold PS.learn
  split
  · exact h.store hn hk (h1 _ _ _) hv
  · next e he =>
    have hev := (h.ents _ (aget_mem he)).2.1
    split
    · exact h.store hn hk (h1 _ _ _) hv
    · split
      · exact h.store hn hk (h1 _ _ _) hev
      · exact h

theorem refuseL_facts (n : Nat) (k : ByteArray) : ∀ (l : List Wt) (s : PS), (s.refuseL n k l).found = s.found ∧ (s.refuseL n k l).fts = s.fts ∧ (s.refuseL n k l).serial = s.serial
  | [], s => ⟨rfl, rfl, rfl⟩
  | x :: r, s => by
    have h1 : (s.refuse n k x).found = s.found ∧ (s.refuse n k x).fts = s.fts ∧ (s.refuse n k x).serial = s.serial := by unfold PS.refuse; split <;> exact ⟨rfl, rfl, rfl⟩
    have h2 := refuseL_facts n k r (s.refuse n k x)
    exact ⟨h2.1.trans h1.1, h2.2.1.trans h1.2.1, h2.2.2.trans h1.2.2⟩
theorem tellL_facts (n : Nat) (e : See) : ∀ (l : List Wt) (s : PS), (s.tellL n e l).found = s.found ∧ (s.tellL n e l).fts = s.fts ∧ (s.tellL n e l).serial = s.serial ∧ (s.tellL n e l).net.length ≤ s.net.length + l.length ∧ (s.tellL n e l).answers.length ≤ s.answers.length + l.length
  | [], s => ⟨rfl, rfl, rfl, by simp [PS.tellL], by simp [PS.tellL]⟩
  | x :: r, s => by
    have h1 : (s.tell n x e).found = s.found ∧ (s.tell n x e).fts = s.fts ∧ (s.tell n x e).serial = s.serial ∧ (s.tell n x e).net.length ≤ s.net.length + 1 ∧ (s.tell n x e).answers.length ≤ s.answers.length + 1 := by
      unfold PS.tell
      split
      · simp
      · split <;> simp
    have h2 := tellL_facts n e r (s.tell n x e)
    refine ⟨h2.1.trans h1.1, h2.2.1.trans h1.2.1, h2.2.2.1.trans h1.2.2.1, ?_, ?_⟩
    · have := h2.2.2.2.1; have := h1.2.2.2.1; simp only [PS.tellL, List.foldl_cons, List.length_cons] at *; omega
    · have := h2.2.2.2.2; have := h1.2.2.2.2; simp only [PS.tellL, List.foldl_cons, List.length_cons] at *; omega

theorem PS.Few.refuseL {s : PS} {b : Nat} (h : s.Few b) (n : Nat) (k : ByteArray) (l : List Wt) : (s.refuseL n k l).Few (b + l.length) := by
  obtain ⟨h1, h2, h3⟩ := refuseL_facts n k l s
  obtain ⟨h4, h5⟩ := PS.refuseL_net n k l s
  obtain ⟨a1, a2, a3, a4, a5⟩ := h
  exact ⟨by rw [h1]; omega, by rw [h2]; omega, by rw [h3]; omega, by omega, by omega⟩
theorem PS.Few.tellL {s : PS} {b : Nat} (h : s.Few b) (n : Nat) (e : See) (l : List Wt) : (s.tellL n e l).Few (b + l.length) := by
  obtain ⟨h1, h2, h3, h4, h5⟩ := tellL_facts n e l s
  obtain ⟨a1, a2, a3, a4, a5⟩ := h
  exact ⟨by rw [h1]; omega, by rw [h2]; omega, by rw [h3]; omega, by omega, by omega⟩
theorem PS.Few.over {s : PS} {b : Nat} (h : s.Few b) (n : Nat) (k : ByteArray) : (s.over n k).Few b := ⟨h.found, Nat.le_trans (adel_length _ _) h.fts, h.serial, h.net, h.answers⟩
theorem PS.Few.use {s : PS} {b : Nat} (h : s.Few b) (n : Nat) (k : ByteArray) : (s.use n k).Few b := ⟨h.found, h.fts, h.serial, h.net, h.answers⟩
theorem PS.Few.refuse {s : PS} {b : Nat} (h : s.Few b) (n : Nat) (k : ByteArray) (x : Wt) : (s.refuse n k x).Few (b + 1) := h.refuseL n k [x]
theorem PS.Few.tell {s : PS} {b : Nat} (h : s.Few b) (n : Nat) (x : Wt) (e : See) : (s.tell n x e).Few (b + 1) := h.tellL n e [x]
theorem PS.Few.fetch {s : PS} {b : Nat} (h : s.Few b) (n : Nat) (k : ByteArray) (tg : Int) (l : List Wt) (v : Value) : (s.fetch n k tg l v).Few (b + 1) := by
  obtain ⟨a1, a2, a3, a4, a5⟩ := h
  refine ⟨Nat.le_trans a1 (by omega), Nat.le_trans (aput_length _ _ _) (by omega), ?_, ?_, Nat.le_trans a5 (by omega)⟩
  · show s.serial + 1 ≤ _; omega
  · show (s.net ++ [_]).length ≤ _; simp; omega
theorem PS.Few.learn {s : PS} {b : Nat} (h : s.Few b) (n : Nat) (m : Mes) (c : Int) : (s.learn n m c).Few (b + 1) := by
  have hk := s.keeps_learn n m c
  have hf := s.found_learn n m c
  obtain ⟨a1, a2, a3, a4, a5⟩ := h
  exact ⟨by omega, by rw [hk.fts]; omega, by rw [hk.serial]; omega, by rw [hk.net]; omega, by rw [hk.answers]; omega⟩
theorem PS.Few.wait {s : PS} {b : Nat} (h : s.Few b) (n : Nat) (k : ByteArray) (x : Wt) (v : Value) : (s.wait n k x v).Few (b + 1) := by
  unfold PS.wait
  split
  · exact h.refuse n k x
  · split
    · exact h.fetch _ _ _ _ _
    · next f hf => exact ⟨Nat.le_trans h.found (by omega), by rw [aput_len_old hf]; exact Nat.le_trans h.fts (by omega), by have := h.serial; show s.serial ≤ _; omega, Nat.le_trans h.net (by omega), Nat.le_trans h.answers (by omega)⟩
theorem PS.Few.asked {s : PS} {b : Nat} (h : s.Few b) (n : Nat) (k : ByteArray) (x : Wt) (v : Value) : (s.asked n k x v).Few (b + 1) := by
  unfold PS.asked
  split
  · exact h.wait n k x v
  · split
    · exact (h.use n k).tell _ _ _
    · exact h.wait n k x v

theorem PS.Few.finish {s : PS} {b : Nat} (h : s.Few b) (n : Nat) (k : ByteArray) (e : Ent) (l : List Wt) : (s.finish n k e l).Few (b + l.length) := by
  unfold PS.finish
  split
  · exact ((h.use n k).over n k).tellL _ _ _
  · exact ((h.use n k).over n k).refuseL _ _ _

theorem PS.Sane.finish {s : PS} (h : s.Sane) {n : Nat} {k : ByteArray} {e : Ent} {l : List Wt} (he : s.entry n k = some e) (hk : k.size ≤ 4) (hl : ∀ x ∈ l, WtOK s.c x) : (s.finish n k e l).Sane := by
  obtain ⟨a, b, _⟩ := h.ents _ (aget_mem he)
  have h1 := ((h.use (n := n) hk).over n k)
  unfold PS.finish
  split
  · next hb => exact PS.Sane.tellL (e := seen k e (ageAt s.c.drift (s.clk n) e)) hk b ⟨age_nonneg h a, Int.le_trans hb h.budget.2⟩ l h1 hl
  · exact PS.Sane.refuseL hk l h1 hl

/-- The base of an answer. -/
theorem base_ok {s : PS} (h : s.Sane) {n : Nat} {k : ByteArray} {f : Ft} {a : Int} (hf : aget s.fts (n, k) = some f) (ha : 0 ≤ a ∧ a ≤ 1000000) : 0 ≤ a + elap s.c.drift (s.clk n - f.sent) ∧ a + elap s.c.drift (s.clk n - f.sent) ≤ 4398046511104 := by
  obtain ⟨_, _, _, _, h1, h2, _⟩ := h.fts _ (aget_mem hf)
  have := elap_le' h h1 h2
  dsimp only at this
  omega

theorem PS.Sane.answered {s : PS} (h : s.Sane) {n : Nat} {m : Mes} (hn : 0 < n) (hl : n < s.c.parents.length) (hm : MesOK s.c m) (hk : m.kind ≠ 1) : (s.answered n m).Sane := by
  unfold PS.answered
  split
  · exact h
  · next f hf =>
    have hx := (h.fts _ (aget_mem hf)).2.2.2.2.2.2
    split
    · exact h
    · split
      · exact PS.Sane.refuseL hm.key f.l (h.over n m.key) hx
      · split
        · refine h.fetch hn hl hm.key hx ?_
          have h1 := waiting_adel n n m.key s.fts f hf
          rw [if_pos rfl] at h1
          have := h.wait n
          omega
        · dsimp only
          have hb := base_ok h hf ⟨hm.age0, hm.age1⟩
          have h2 := h.learn (m := m) hl hm.key (hm.ver hk) hb
          obtain ⟨e, he⟩ := s.entry_learn n m (m.age + elap s.c.drift (s.clk n - f.sent))
          rw [he]
          refine h2.finish he hm.key (fun x hx' => ?_)
          rw [(s.keeps_learn n m _).c]
          exact hx x hx'

theorem PS.Few.answered {s : PS} {b : Nat} (h : s.Few b) (hs : s.Sane) (n : Nat) (m : Mes) : (s.answered n m).Few (b + 5) := by
  unfold PS.answered
  split
  · exact h.mono (by omega)
  · next f hf =>
    have h4 := hs.wl (aget_mem hf)
    dsimp only at h4
    split
    · exact h.mono (by omega)
    · split
      · exact ((h.over n m.key).refuseL n m.key f.l).mono (by omega)
      · split
        · exact (h.fetch _ _ _ _ _).mono (by omega)
        · exact ((h.learn n m _).finish n m.key _ f.l).mono (by omega)

theorem rec_ver {s : PS} (h : s.Sane) (k : ByteArray) : 0 ≤ (s.record k).ver := by
  unfold PS.record
  cases hg : aget s.recs k with
  | none => exact Int.le_refl _
  | some r => exact h.recs _ (aget_mem hg)

theorem PS.Sane.arrive {s : PS} (h : s.Sane) {m : Mes} {v : Value} (hm : MesOK s.c m) : (s.arrive m v).Sane := by
  have h0 := hm.to0
  have h1 := hm.to1
  unfold PS.arrive
  split
  · next hk => exact h.answered (by have := hm.toC hk; omega) (by omega) hm hk
  · next hk =>
    have hk : m.kind = 1 := Classical.not_not.1 hk
    obtain ⟨f0, f1⟩ := hm.frm hk
    split
    · exact h.tell hm.key (rec_ver h m.key) ⟨Int.le_refl _, by show (0 : Int) ≤ 1000000; decide⟩ ⟨Int.le_of_lt f0, f1⟩
    · next ht => exact h.asked (by omega) (by omega) hm.key ⟨Int.le_of_lt f0, f1⟩

theorem PS.Few.arrive {s : PS} {b : Nat} (h : s.Few b) (hs : s.Sane) (m : Mes) (v : Value) : (s.arrive m v).Few (b + 5) := by
  unfold PS.arrive
  split
  · exact h.answered hs _ _
  · split
    · exact (h.tell _ _ _).mono (by omega)
    · exact (h.asked _ _ _ _).mono (by omega)

end Go.Proofs.YtpdkojgepagbnaaDoor
