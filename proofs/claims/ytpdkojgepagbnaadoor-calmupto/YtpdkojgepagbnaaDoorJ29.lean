/-
  A shop and its tier in memory; what a call of the caller's leaves alone.
  What the caller finds of the answers.
  There is a tier whose clients are told what was written, at first by a message there and one back, then at once.
  What the caller writes of its own.
  What holds of a script's play at all times, as plain data: kept by each step.
-/
import Derived.Test.YtpdkojgepagbnaaDoorJ27
import Derived.Test.YtpdkojgepagbnaaDoorJ26
import Derived.BigQuiet
import Derived.Deep.RegionHeld3
import Derived.Test.YtpdkojgepagbnaaDoorJ23
namespace Go.Proofs.YtpdkojgepagbnaaDoor
set_option maxRecDepth 100000
open Go.RowKit
open Tier (Mes Ans Conf St Was)

/-- What is nobody's stays, and stays nobody's. -/
structure KS (own own' : Own) (w w' : World) : Prop where
  turn : Turn (fun k => own k ≠ none) w w'
  free : ∀ k, k < w.heap.size → own k = none → own' k = none

theorem KS.refl (own : Own) (w : World) : KS own own w w := ⟨Turn.refl _ _, fun _ _ h => h⟩
theorem KS.trans {o o1 o2 : Own} {a b c : World} (h : KS o o1 a b) (g : KS o1 o2 b c) : KS o o2 a c :=
  ⟨h.turn.trans g.turn (fun k hk h1 h0 => h1 (h.free k hk h0)), fun k hk h0 => g.free k (Nat.lt_of_lt_of_le hk h.turn.size) (h.free k hk h0)⟩
theorem KS.of_turn {own : Own} {a b : World} (h : Turn nothing a b) : KS own own a b := ⟨h.mono (fun _ _ h => h.elim), fun _ _ h => h⟩
theorem KS.of_step {τ : Nat} {o o' : Own} {a b : World} (h : Step τ o o' a b) : KS o o' a b :=
  ⟨h.turn.mono (fun k _ ⟨x, hx⟩ e => by rw [e] at hx; cases hx), fun k hk h0 => h.free hk h0⟩
theorem KS.cell {o o' : Own} {w w' : World} (h : KS o o' w w') {a : Addr} {v : Value} (hc : w.cell? a = some v) (hm : o a.block = none) : w'.cell? a = some v := h.turn.cell hc (fun e => e hm)
theorem KS.block {o o' : Own} {w w' : World} (h : KS o o' w w') {k : Nat} (hk : k < w.heap.size) (hm : o k = none) : w'.heap[k]? = w.heap[k]? := h.turn.block k hk (fun e => e hm)

/-- In w lies a shop, and its tier; all of it above n0. -/
structure Shop (n0 : Nat) (own : Own) (w : World) (bs b : Nat) (t : St) (h : Sh) : Prop where
  is : ∃ q, TierAt own 0 w q.bt b t ∧ ShopIs own w bs q t.c h
  fresh : ∀ k, own k ≠ none → n0 ≤ k
  keys : KeyTab w
  low : 1 < n0

variable {n0 : Nat} {own own' : Own} {w w' : World} {bs b : Nat} {t t' : St} {h h' : Sh}

theorem Shop.free (s : Shop n0 own w bs b t h) {k : Nat} (hk : k < n0) : own k = none := by
  cases e : own k with
  | none => rfl
  | some x => have := s.fresh k (by rw [e]; exact fun x => by cases x); omega
theorem KeyTab.ks (hK : KeyTab w) (S : KS own own' w w') (ho : own 1 = none) : KeyTab w' := by
  obtain ⟨h0, h1, h2, h3⟩ := hK
  exact ⟨S.cell h0 ho, S.cell h1 ho, S.cell h2 ho, S.cell h3 ho⟩
theorem Shop.top (s : Shop n0 own w bs b t h) : ∀ k, w.heap.size ≤ k → own k = none := by
  obtain ⟨q, ht, _⟩ := s.is
  exact ht.top
theorem Shop.sane (s : Shop n0 own w bs b t h) (hs : KS own own' w w') (hf : ∀ k, own' k ≠ none → k < w.heap.size ∨ n0 ≤ k) : ∀ k, own' k ≠ none → n0 ≤ k := fun k hk => by
  rcases hf k hk with e | e
  · exact s.fresh k (fun h0 => hk (hs.free k e h0))
  · exact e
/-- The shop behind another step. -/
theorem Shop.next (s : Shop n0 own w bs b t h) {b' : Nat} (hs : KS own own' w w') (his : ∃ q, TierAt own' 0 w' q.bt b' t' ∧ ShopIs own' w' bs q t'.c h') (hn : n0 ≤ w.heap.size) : Shop n0 own' w' bs b' t' h' := by
  refine ⟨his, fun k hk => ?_, s.keys.ks hs (s.free s.low), s.low⟩
  by_cases e : k < w.heap.size
  · exact s.fresh k (fun h0 => hk (hs.free k e h0))
  · omega
theorem Shop.turn (s : Shop n0 own w bs b t h) (T : Turn nothing w w') : Shop n0 own w' bs b t h := by
  obtain ⟨q, ht, hs⟩ := s.is
  exact ⟨⟨q, ht.turn T, hs.turn T⟩, s.fresh, s.keys.turn T, s.low⟩
theorem Shop.mono (s : Shop n0 own w bs b t h) {b' : Nat} (hb : b ≤ b') : Shop n0 own w bs b' t h := by
  obtain ⟨q, ht, hs⟩ := s.is
  exact ⟨⟨q, ht.mono hb, hs⟩, s.fresh, s.keys, s.low⟩

/-- What a call on the tier leaves of the shop. -/
theorem Shop.leaves (s : Shop n0 own w bs b t h) (hn : n0 ≤ w.heap.size) {q : ShG} (hq : ShopIs own w bs q t.c h) {b' : Nat} (L : Leaves own 0 w q.bt b' t' w') (hc : t'.c = t.c) : ∃ own', Shop n0 own' w' bs b' t' h ∧ KS own own' w w' := by
  obtain ⟨own', ht, S⟩ := L
  have K := KS.of_step S
  exact ⟨own', s.next K ⟨q, ht, by rw [hc]; exact hq.step S⟩ hn, K⟩

/-- The tier stays while the shop's own is written. -/
theorem TierAt.step1 {bt : Nat} (ht : TierAt own 0 w bt b t) (S : Step 1 own own' w w') (htop : ∀ k, w'.heap.size ≤ k → own' k = none) : TierAt own' 0 w' bt b t := by
  refine ht.frame (fun k hk ⟨x, hx⟩ => ⟨S.turn.block k hk (fun ⟨y, hy⟩ => ?_), ?_⟩) htop
  · rw [hx] at hy; cases hy
  · rcases S.same k hk with e | ⟨⟨y, hy⟩, _⟩
    · exact e
    · rw [hx] at hy; cases hy

/-- One is answered. -/
theorem ShopIs.shutOne {q : ShG} {c : Conf} (s : ShopIs own w bs q c h) {j : Nat} (hj : j < h.opn.length) : ∃ ob oc, q.ov = .slice (some ⟨ob, 0, none⟩) h.opn.length oc ∧ own ob = some (1, 5) ∧ ob < w.heap.size ∧ (∀ v, h.opn[j]? = some v → w.cell? ⟨ob, j, none⟩ = some (.bool v)) ∧ w.frozen? ⟨ob, j, none⟩ = false ∧
    ShopIs own (w.setCell ⟨ob, j, none⟩ (.bool false)) bs q c { h with opn := h.opn.set j false } ∧ Step 1 own own w (w.setCell ⟨ob, j, none⟩ (.bool false)) := by
  obtain ⟨v, hv⟩ : ∃ v, h.opn[j]? = some v := ⟨_, List.getElem?_eq_getElem hj⟩
  obtain ⟨ob, oc, e1, e2, e3, e4, e5⟩ := s.opn.atM (fun _ => rfl) hv
  have T : Turn (Mine own 1) w (w.setCell ⟨ob, j, none⟩ (.bool false)) := (Turn.refl _ _).step_set (Or.inr ⟨5, e2⟩)
  have F : Fr (fun x => x = 5) own own 1 w (w.setCell ⟨ob, j, none⟩ (.bool false)) := ⟨fun k hk x hx ho => ⟨heap_setCell_other (fun e => by rw [e, e2] at ho; cases ho; exact hx rfl), rfl⟩⟩
  refine ⟨ob, oc, e1, e2, e3, fun v' hv' => ?_, e5 j, ⟨?_, s.blockO, F.row s.pars (by omega), F.row s.clocks (by omega), F.row s.hist (by omega), ?_⟩, ⟨T, fun _ _ => Or.inl rfl⟩⟩
  · rw [hv] at hv'
    cases hv'
    have := e4 0 (by omega)
    rw [Nat.mul_one, Nat.add_zero] at this
    exact this
  · have := F.block s.blockO (by omega) s.block
    rw [this]
    unfold shopC
    rw [List.length_set]
  · have hr := s.opn
    rw [e1] at hr ⊢
    have := hr.set1 (one_boolL h.opn) j (.bool false)
    rw [List.map_set]
    exact this

end Go.Proofs.YtpdkojgepagbnaaDoor

namespace Go.Proofs.YtpdkojgepagbnaaDoor
set_option maxRecDepth 100000
open Go.RowKit
open Tier (Mes Ans Conf St Was heldB)
attribute [local go_sem ↓] Go.wp_at_zero Go.wp_at_succ

theorem Turn.drewN (M : Nat → Prop) (w : World) (n : Nat) : Turn M w (w.drewN n) := ⟨rfl, rfl, rfl, Nat.le_refl _, fun _ _ _ => rfl⟩

theorem Loose.atM {α : Type} {f : α → List Value} {own : Own} {e m : Nat} {w : World} {v : Value} {l : List α} (h : Loose own w e m v (l.map f)) (hm : ∀ a, (f a).length = m) {j : Nat} {a : α} (hj : l[j]? = some a) :
    ∃ b c, v = .slice (some ⟨b, 0, none⟩) l.length c ∧ own b = none ∧ b < w.heap.size ∧ (∀ i, i < m → w.cell? ⟨b, j * m + i, none⟩ = (f a)[i]?) := by
  have hlen : j < l.length := (List.getElem?_eq_some_iff.1 hj).1
  have hr := h.row
  have hr' := hr
  obtain ⟨hl, ⟨hv, h0⟩ | ⟨b, cap, cur, hv, _, hg, _⟩⟩ := hr
  · rw [List.length_map] at h0; omega
  · rw [hv] at hr'
    refine ⟨b, cap, by rw [hv, List.length_map], h.free b (by rw [hv]; rfl), heap_lt hg, fun i hi => ?_⟩
    have h1 : j * m + i < (l.map f).length * m := by
      have : (j + 1) * m ≤ l.length * m := Nat.mul_le_mul_right m hlen
      rw [Nat.succ_mul] at this
      rw [List.length_map]
      omega
    rw [hr'.cellAt (j * m + i) h1]
    exact flatten_get (l.map f) j i (f a) (by intro y hy; obtain ⟨z, _, rfl⟩ := List.mem_map.1 hy; exact hm z) (by simp [hj]) hi

theorem ScriptAt.turn {w w' : World} {a : Option Addr} {l : List StepD} {M : Nat → Prop} (h : ScriptAt w a l) (T : Turn M w w') (hm : ∀ ad, a = some ad → ¬ M ad.block) : ScriptAt w' a l := by
  refine ⟨fun j o ho => ?_, h.ok⟩
  obtain ⟨b, off, e, c0, c1, c2, c3⟩ := h.at_ j o ho
  have := hm _ e
  exact ⟨b, off, e, T.cell c0 this, T.cell c1 this, T.cell c2 this, T.cell c3 this⟩

theorem ScriptAt.turnP {w w' : World} {a : Option Addr} {l : List StepD} {M : Nat → Prop} (h : ScriptAt w a l) (T : Turn M w w') (hm : 0 < l.length → ∀ ad, a = some ad → ¬ M ad.block) : ScriptAt w' a l := by
  by_cases hp : 0 < l.length
  · exact h.turn T (hm hp)
  · obtain rfl : l = [] := List.eq_nil_of_length_eq_zero (by omega)
    exact ⟨fun j o h => by simp at h, fun o h => by (cases h)⟩

variable {n0 : Nat} {own own' : Own} {w w' : World} {bs b : Nat} {t t' : St} {h h' : Sh}

/-- What holds while the answers are gone through. -/
structure AnsLoop (own0 own : Own) (w0 w : World) (bs : Nat) (q : ShG) (b : Nat) (t : St) (h : Sh) (v : Value) (l : List Ans) (a : Option Addr) (script : List StepD) : Prop where
  tier : TierAt own 0 w q.bt b t
  shop : ShopIs own w bs q t.c h
  ks : KS own0 own w0 w
  loose : Loose own w 56 7 v (l.map ansL)
  scr : ScriptAt w a script

theorem AnsLoop.turn {own0 own : Own} {w0 w w' : World} {bs : Nat} {q : ShG} {b : Nat} {t : St} {h : Sh} {v : Value} {l : List Ans} {a : Option Addr} {script : List StepD} (A : AnsLoop own0 own w0 w bs q b t h v l a script) (T : Turn nothing w w') : AnsLoop own0 own w0 w' bs q b t h v l a script :=
  ⟨A.tier.turn T, A.shop.turn T, A.ks.trans (KS.of_turn T), A.loose.step (Step.of_turn (τ := 1) T), A.scr.turn T (fun _ _ h => h)⟩

set_option maxHeartbeats 8000000 in
theorem answers_timed (S : Shop n0 own w bs b t h) (hn : n0 ≤ w.heap.size) (hb : b ≤ 1000000000000) (a : Option Addr) (cap : Nat) (script : List StepD) (hs : ScriptAt w a script) (hsl : script.length ≤ 1000000000000) (hsn : 0 < script.length → ∀ ad, a = some ad → ad.block < n0) (hl : h.l.length ≤ 1000000000000) (hnow : 0 ≤ h.now ∧ h.now ≤ 1000000000000000) (hbud : 0 ≤ t.c.budget ∧ t.c.budget ≤ 1000000)
    (A : AnsAll script t.c.budget (h.now - t.c.budget) h t.answers) :
    Calls Tryd.prog 26 #[.pointer (some ⟨bs, 0, none⟩), .slice a script.length cap, .bool true] w fun e w' => e = .returned (.bool true) ∧ ∃ own', Shop n0 own' w' bs b { t with answers := [] } { h with opn := shut h.opn t.answers } ∧ KS own own' w w' := by
  have HS := hide S
  obtain ⟨q, ht, hq⟩ := S.is
  have KA := hide ht.answers
  have HQ := hide hq
  have d0 : w.cell? ⟨bs, 0, none⟩ = some (.pointer (some ⟨q.bt, 0, none⟩)) := cell_of_cells hq.block 0
  have HSC := hide hs
  have HSN : Hid (0 < script.length → ∀ ad, a = some ad → own ad.block = none ∧ ad.block < w.heap.size) := fun hp ad e => ⟨S.free (hsn hp ad e), Nat.lt_of_lt_of_le (hsn hp ad e) hn⟩
  have HAL := hide A
  have hal : t.answers.length ≤ 1000000000000 := Nat.le_trans ht.netLen.2 hb
  have HNOW := hide (And.intro hl hnow)
  have hbl := hq.lt
  clear S ht hq hs A hsn
  go_enter Tryd.func26, Tryd.ntmps26
  go_wp2_with fail
  refine (unhide KA).mono ?_
  rintro e w1 ⟨v, rfl, own1, T1, S1, L1⟩
  obtain ⟨va, vc, hv⟩ := row_form L1.row
  rw [List.length_map] at hv
  subst hv
  have HR0 : Hid (AnsLoop own own1 w w1 bs q b { t with answers := [] } h (.slice va t.answers.length vc) t.answers a script) :=
    ⟨T1, (unhide HQ).step S1, KS.of_step S1, L1, (unhide HSC).turnP S1.turn (fun hp ad e ⟨x, hx⟩ => by rw [(unhide HSN hp ad e).1] at hx; cases hx)⟩
  clear T1 S1 L1 KA HQ d0
  generalize hL : t.answers = l at *
  generalize hN : l.length = n at *
  go_wp2
  go_loopw [8, 9, 10, 11] (fun i _ _ _ wr => ∃ j : Nat, j ≤ n ∧ i = .int .i64 (j : Int) ∧ Hid (AnsLoop own own1 w wr bs q b { t with answers := [] } { h with opn := shut h.opn (l.take j) } (.slice va n vc) l a script)) (fun i _ _ _ _ => n - (intOf i).toNat)
  case atStart => exact ⟨0, Nat.zero_le _, rfl, HR0⟩
  case round =>
    clear HR0
    obtain ⟨j, jn, rfl, HR⟩ := hrel
    by_cases hlt : j < n
    · obtain ⟨x, hx⟩ : ∃ x, l[j]? = some x := ⟨_, List.getElem?_eq_getElem (by omega)⟩
      obtain ⟨lb, lc, elv, lbo, lblt, lcell⟩ := (unhide HR).loose.atM (fun _ => rfl) hx
      cases elv
      obtain ⟨o1, o2, o3⟩ := (unhide HAL).open_ j x hx
      have hok := hide ((unhide HAL).ok x (List.mem_of_getElem? hx))
      have hsn := hide (shut_snoc h.opn l j x hx)
      obtain ⟨k, hk⟩ : ∃ k : Nat, x.id = (k : Int) := ⟨x.id.toNat, by omega⟩
      obtain ⟨node, aid, kind, ver, pres, val, age⟩ := x
      dsimp only at hk o1 o2 o3 hsn
      subst hk
      rw [show ((k : Int)).toNat = k by omega] at o3 hsn
      have hkl : k < (shut h.opn (l.take j)).length := (List.getElem?_eq_some_iff.1 o3).1
      obtain ⟨ob, oc, s1, s2, s3, s4, s5, _⟩ := (unhide HR).shop.shutOne hkl
      have c0 : wr.cell? ⟨lb, j * 7, none⟩ = some (.int .i64 node) := lcell 0 (by omega)
      have c1 : wr.cell? ⟨lb, j * 7 + 1, none⟩ = some (.int .i64 (k : Int)) := lcell 1 (by omega)
      have c2 : wr.cell? ⟨lb, j * 7 + 2, none⟩ = some (.int .i64 kind) := lcell 2 (by omega)
      have c3 : wr.cell? ⟨lb, j * 7 + 3, none⟩ = some (.int .i64 ver) := lcell 3 (by omega)
      have c4 : wr.cell? ⟨lb, j * 7 + 4, none⟩ = some (.int .i64 pres) := lcell 4 (by omega)
      have c5 : wr.cell? ⟨lb, j * 7 + 5, none⟩ = some (.string val) := lcell 5 (by omega)
      have c6 : wr.cell? ⟨lb, j * 7 + 6, none⟩ = some (.int .i64 age) := lcell 6 (by omega)
      have hbsw : bs < wr.heap.size := (unhide HR).shop.lt
      have q10 : wr.cell? ⟨bs, 10, none⟩ = some (.slice (some ⟨ob, 0, none⟩) (shut h.opn (l.take j)).length oc) := by rw [← s1]; exact cell_of_cells (unhide HR).shop.block 10
      have qo : wr.cell? ⟨ob, k, none⟩ = some (.bool true) := s4 true o3
      have i0 : (0 : Int) ≤ (j : Int) := by omega
      have i1 : (j : Int) < (l.length : Int) := by omega
      generalize hm : (shut h.opn (l.take j)).length = m at *
      have k0 : (0 : Int) ≤ (k : Int) := by omega
      have k1 : (k : Int) < (m : Int) := by omega
      have kd0 : decide ((k : Int) < 0) = false := decide_eq_false (by omega)
      have kd1 : decide (m ≤ k) = false := decide_eq_false (by omega)
      clear lcell o1 o2 o3 s4
      go_wp2
      generalize hW : World.alloc _ _ = W0
      have T0 : Turn nothing wr W0 := by rw [← hW]; exact Turn.alloc _ _ _
      have hsz : W0.heap.size = wr.heap.size + 1 := by rw [← hW]; simp
      have x0 : W0.cell? ⟨wr.heap.size, 0, none⟩ = some (.int .i64 node) := by rw [← hW]; exact cell_of_cells (new1_0 wr _) 0
      have x1 : W0.cell? ⟨wr.heap.size, 1, none⟩ = some (.int .i64 (k : Int)) := by rw [← hW]; exact cell_of_cells (new1_0 wr _) 1
      have x2 : W0.cell? ⟨wr.heap.size, 2, none⟩ = some (.int .i64 kind) := by rw [← hW]; exact cell_of_cells (new1_0 wr _) 2
      have x3 : W0.cell? ⟨wr.heap.size, 3, none⟩ = some (.int .i64 ver) := by rw [← hW]; exact cell_of_cells (new1_0 wr _) 3
      have x4 : W0.cell? ⟨wr.heap.size, 4, none⟩ = some (.int .i64 pres) := by rw [← hW]; exact cell_of_cells (new1_0 wr _) 4
      have x5 : W0.cell? ⟨wr.heap.size, 5, none⟩ = some (.string val) := by rw [← hW]; exact cell_of_cells (new1_0 wr _) 5
      have x6 : W0.cell? ⟨wr.heap.size, 6, none⟩ = some (.int .i64 age) := by rw [← hW]; exact cell_of_cells (new1_0 wr _) 6
      have p10 := T0.cell q10 id
      have po := T0.cell qo id
      have HR1 := hide ((unhide HR).turn T0)
      have hxo : own1 wr.heap.size = none := (unhide HR).tier.top _ (Nat.le_refl _)
      clear hW HR c0 c1 c2 c3 c4 c5 c6 q10 qo s2 s5 lblt lbo
      go_quiet (fail)
      generalize hV : World.drewN W0 _ = V
      have TV : Turn nothing W0 V := by rw [← hV]; exact Turn.drewN _ _ _
      have hszV : W0.heap.size ≤ V.heap.size := TV.size
      have z0 := TV.cell x0 id
      have z1 := TV.cell x1 id
      have z2 := TV.cell x2 id
      have z3 := TV.cell x3 id
      have z4 := TV.cell x4 id
      have z5 := TV.cell x5 id
      have z6 := TV.cell x6 id
      have v10 := TV.cell p10 id
      have vo := TV.cell po id
      have HR2 := hide ((unhide HR1).turn TV)
      have vf : V.frozen? ⟨ob, k, none⟩ = false := by
        obtain ⟨ob2, oc2, t1, _, _, _, t5, _⟩ := (unhide HR2).shop.shutOne (j := k) (by dsimp only; omega)
        rw [s1] at t1
        cases t1
        exact t5
      clear hV HR1 x0 x1 x2 x3 x4 x5 x6 p10 po
      go_wp2
      go_region
      generalize hX : World.drew _ = X
      have HR3 : Hid (AnsLoop own own1 w X bs q b { t with answers := [] } { h with opn := shut h.opn (l.take (j + 1)) } (.slice (some ⟨lb, 0, none⟩) l.length vc) l a script) := by
        have hV' := unhide HR2
        obtain ⟨ob2, oc2, t1, _, _, _, _, t6, t7⟩ := hV'.shop.shutOne (j := k) (by dsimp only; omega)
        rw [s1] at t1
        cases t1
        rw [← hX]
        refine AnsLoop.turn (w := V.setCell ⟨ob, k, none⟩ (.bool false)) ?_ (Turn.drew _ _)
        refine ⟨hV'.tier.step1 t7 (fun k' hk' => hV'.tier.top k' (by simpa using hk')), ?_, hV'.ks.trans (KS.of_step t7), hV'.loose.step t7, hV'.scr.turnP t7.turn (fun hp ad e ⟨y, hy⟩ => ?_)⟩
        · rw [unhide hsn]; exact t6
        · rw [hV'.ks.free ad.block (unhide HSN hp ad e).2 (unhide HSN hp ad e).1] at hy; cases hy
      have TX : Turn (fun k' => k' = ob) V X := by rw [← hX]; exact ((Turn.refl (fun k' => k' = ob) V).step_set (p := ⟨ob, k, none⟩) (v := .bool false) (Or.inr rfl)).step_drew
      have hne : ¬ wr.heap.size = ob := by omega
      have y0 := TX.cell z0 hne
      have y1 := TX.cell z1 hne
      have y2 := TX.cell z2 hne
      have y3 := TX.cell z3 hne
      have y4 := TX.cell z4 hne
      have y5 := TX.cell z5 hne
      have y6 := TX.cell z6 hne
      have hszX : wr.heap.size < X.heap.size := by have := TX.size; omega
      have g6 : X.cell? ⟨bs, 6, none⟩ = some (.int .i64 h.now) := cell_of_cells (unhide HR3).shop.block 6
      have g3 : X.cell? ⟨bs, 3, none⟩ = some (.int .i64 t.c.budget) := cell_of_cells (unhide HR3).shop.block 3
      have hbsX : bs < X.heap.size := (unhide HR3).shop.lt
      clear hX HR2 TX z0 z1 z2 z3 z4 z5 z6 v10 vo vf TV T0 s1 s3 hsn
      rcases unhide hok with ⟨e1, e2, e3, e4, e5⟩ | ⟨e1, hh, ha0, ha1⟩
      · dsimp only at e1 e2 e3 e4 e5
        subst e1 e2 e3 e4 e5
        unfold Tier.empty at y5
        clear hok
        go_wp2
        go_roundw
        case rel => exact ⟨j + 1, by omega, by go_num, HR3⟩
        case measure => simp [intOf]; omega
      · dsimp only at e1 hh ha0 ha1
        subst e1
        clear hok
        go_wp2
        go_quiet (fail)
        generalize hY : World.drewN X _ = Y
        have TY : Turn nothing X Y := by rw [← hY]; exact Turn.drewN _ _ _
        have HR4 := hide ((unhide HR3).turn TY)
        have u0 := TY.cell y0 id
        have u1 := TY.cell y1 id
        have u2 := TY.cell y2 id
        have u3 := TY.cell y3 id
        have u4 := TY.cell y4 id
        have u5 := TY.cell y5 id
        have u6' := TY.cell y6 id
        have v3 := TY.cell g3 id
        have KQ := hide (fun w' (T : Turn nothing Y w') => asked_of a cap script (k : Int) w' ((unhide HR4).scr.turn T (fun _ _ h => h)) hsl)
        have KH := hide (fun w' (T : Turn nothing Y w') => held_any ((unhide HR4).shop.turn T) (unhide HNOW).1 (unhide HNOW).2 (askedF script 0 (k : Int)) ⟨node, (k : Int), 1, ver, pres, val, age⟩ (h.now - t.c.budget))
        dsimp only at KH
        rw [hh] at KH
        unfold ansV ansL at KH
        generalize askedF script 0 (k : Int) = ak at *
        have ad0 : decide (age < 0) = false := decide_eq_false (by omega)
        have ad1 : decide (t.c.budget < age) = false := decide_eq_false (by omega)
        clear hh HR3 TY g3 g6 y0 y1 y2 y3 y4 y5 y6 hY
        go_wp2
        have HS : ∀ w', Turn nothing Y w' → Turn nothing Y w' ∧ w'.cell? ⟨wr.heap.size, 0, none⟩ = some (.int .i64 node) ∧ w'.cell? ⟨wr.heap.size, 1, none⟩ = some (.int .i64 (k : Int)) ∧ w'.cell? ⟨wr.heap.size, 2, none⟩ = some (.int .i64 1) ∧ w'.cell? ⟨wr.heap.size, 3, none⟩ = some (.int .i64 ver) ∧ w'.cell? ⟨wr.heap.size, 4, none⟩ = some (.int .i64 pres) ∧ w'.cell? ⟨wr.heap.size, 5, none⟩ = some (.string val) ∧ w'.cell? ⟨wr.heap.size, 6, none⟩ = some (.int .i64 age) ∧ w'.cell? ⟨bs, 3, none⟩ = some (.int .i64 t.c.budget) := fun w' T => ⟨T, T.cell u0 id, T.cell u1 id, T.cell u2 id, T.cell u3 id, T.cell u4 id, T.cell u5 id, T.cell u6' id, T.cell v3 id⟩
        go_region_held3 (fun w' => Turn nothing Y w' ∧ w'.cell? ⟨wr.heap.size, 0, none⟩ = some (.int .i64 node) ∧ w'.cell? ⟨wr.heap.size, 1, none⟩ = some (.int .i64 (k : Int)) ∧ w'.cell? ⟨wr.heap.size, 2, none⟩ = some (.int .i64 1) ∧ w'.cell? ⟨wr.heap.size, 3, none⟩ = some (.int .i64 ver) ∧ w'.cell? ⟨wr.heap.size, 4, none⟩ = some (.int .i64 pres) ∧ w'.cell? ⟨wr.heap.size, 5, none⟩ = some (.string val) ∧ w'.cell? ⟨wr.heap.size, 6, none⟩ = some (.int .i64 age) ∧ w'.cell? ⟨bs, 3, none⟩ = some (.int .i64 t.c.budget)) ((go_split_ands; apply HS; all_goals (repeat (first | with_reducible assumption | with_reducible exact Turn.refl _ _ | with_reducible apply Turn.step_alloc | with_reducible apply Turn.step_drew | ((with_reducible refine Turn.step_turn (N := nothing) ?_ (by assumption) ?_); rotate_left; · exact fun _ _ h => False.elim h) | ((with_reducible refine Turn.step_set ?_ ?_); rotate_left; · first | exact Or.inr rfl | exact Or.inr (Or.inl rfl) | exact Or.inl (by simp <;> omega)) | ((with_reducible refine Turn.step_turn ?_ (Turn.grown (by assumption)) ?_); rotate_left; · exact fun _ _ h => Or.inr h) | with_reducible apply There.drew | with_reducible apply There.set | ((with_reducible refine There.turn ?_ (by assumption) ?_); rotate_left; · exact id) | assumption)))) (first | (go_at_call 51; go_split_ands; refine (unhide KQ _ (by assumption)).mono ?_; rintro e w7 ⟨rfl, T7⟩) | (go_at_call 20; go_split_ands; refine (unhide KH _ (by (repeat (first | with_reducible assumption | with_reducible exact Turn.refl _ _ | with_reducible apply Turn.step_alloc | with_reducible apply Turn.step_drew | ((with_reducible refine Turn.step_turn (N := nothing) ?_ (by assumption) ?_); rotate_left; · exact fun _ _ h => False.elim h) | ((with_reducible refine Turn.step_set ?_ ?_); rotate_left; · first | exact Or.inr rfl | exact Or.inr (Or.inl rfl) | exact Or.inl (by simp <;> omega)) | ((with_reducible refine Turn.step_turn ?_ (Turn.grown (by assumption)) ?_); rotate_left; · exact fun _ _ h => Or.inr h) | with_reducible apply There.drew | with_reducible apply There.set | ((with_reducible refine There.turn ?_ (by assumption) ?_); rotate_left; · exact id) | assumption)))).mono ?_; rintro e w8 ⟨rfl, T8⟩))
        go_split_ands
        have TE : Turn nothing Y w8 := by assumption
        have HR5 := hide ((unhide HR4).turn TE)
        clear HS KQ KH T7 T8 TE
        go_wp2
        go_quiet (fail)
        go_wp2
        go_roundw
        case rel => exact ⟨j + 1, by omega, by go_num, (unhide HR5).turn (Turn.drewN _ _ _)⟩
        case measure => simp [intOf]; omega
    · have e : j = n := by omega
      subst e
      rw [← hN, List.take_length] at HR
      go_wp2
      go_ret
      have hR := unhide HR
      subst hL
      exact ⟨rfl, own1, (unhide HS).next hR.ks ⟨q, hR.tier, hR.shop⟩ hn, hR.ks⟩

set_option maxHeartbeats 8000000 in
theorem answers_any (S : Shop n0 own w bs b t h) (hn : n0 ≤ w.heap.size) (hb : b ≤ 1000000000000) (a : Option Addr) (cap : Nat) (script : List StepD) (hs : ScriptAt w a script) (hsl : script.length ≤ 1000000000000) (hsn : 0 < script.length → ∀ ad, a = some ad → ad.block < n0) (hl : h.l.length ≤ 1000000000000) (hnow : 0 ≤ h.now ∧ h.now ≤ 1000000000000000) (hbud : 0 ≤ t.c.budget ∧ t.c.budget ≤ 1000000)
    (A : AnsAll script t.c.budget 0 h t.answers) :
    Calls Tryd.prog 26 #[.pointer (some ⟨bs, 0, none⟩), .slice a script.length cap, .bool false] w fun e w' => e = .returned (.bool true) ∧ ∃ own', Shop n0 own' w' bs b { t with answers := [] } { h with opn := shut h.opn t.answers } ∧ KS own own' w w' := by
  have HS := hide S
  obtain ⟨q, ht, hq⟩ := S.is
  have KA := hide ht.answers
  have HQ := hide hq
  have d0 : w.cell? ⟨bs, 0, none⟩ = some (.pointer (some ⟨q.bt, 0, none⟩)) := cell_of_cells hq.block 0
  have HSC := hide hs
  have HSN : Hid (0 < script.length → ∀ ad, a = some ad → own ad.block = none ∧ ad.block < w.heap.size) := fun hp ad e => ⟨S.free (hsn hp ad e), Nat.lt_of_lt_of_le (hsn hp ad e) hn⟩
  have HAL := hide A
  have hal : t.answers.length ≤ 1000000000000 := Nat.le_trans ht.netLen.2 hb
  have HNOW := hide (And.intro hl hnow)
  have hbl := hq.lt
  clear S ht hq hs A hsn
  go_enter Tryd.func26, Tryd.ntmps26
  go_wp2_with fail
  refine (unhide KA).mono ?_
  rintro e w1 ⟨v, rfl, own1, T1, S1, L1⟩
  obtain ⟨va, vc, hv⟩ := row_form L1.row
  rw [List.length_map] at hv
  subst hv
  have HR0 : Hid (AnsLoop own own1 w w1 bs q b { t with answers := [] } h (.slice va t.answers.length vc) t.answers a script) :=
    ⟨T1, (unhide HQ).step S1, KS.of_step S1, L1, (unhide HSC).turnP S1.turn (fun hp ad e ⟨x, hx⟩ => by rw [(unhide HSN hp ad e).1] at hx; cases hx)⟩
  clear T1 S1 L1 KA HQ d0
  generalize hL : t.answers = l at *
  generalize hN : l.length = n at *
  go_wp2
  go_loopw [8, 9, 10, 11] (fun i _ _ _ wr => ∃ j : Nat, j ≤ n ∧ i = .int .i64 (j : Int) ∧ Hid (AnsLoop own own1 w wr bs q b { t with answers := [] } { h with opn := shut h.opn (l.take j) } (.slice va n vc) l a script)) (fun i _ _ _ _ => n - (intOf i).toNat)
  case atStart => exact ⟨0, Nat.zero_le _, rfl, HR0⟩
  case round =>
    clear HR0
    obtain ⟨j, jn, rfl, HR⟩ := hrel
    by_cases hlt : j < n
    · obtain ⟨x, hx⟩ : ∃ x, l[j]? = some x := ⟨_, List.getElem?_eq_getElem (by omega)⟩
      obtain ⟨lb, lc, elv, lbo, lblt, lcell⟩ := (unhide HR).loose.atM (fun _ => rfl) hx
      cases elv
      obtain ⟨o1, o2, o3⟩ := (unhide HAL).open_ j x hx
      have hok := hide ((unhide HAL).ok x (List.mem_of_getElem? hx))
      have hsn := hide (shut_snoc h.opn l j x hx)
      obtain ⟨k, hk⟩ : ∃ k : Nat, x.id = (k : Int) := ⟨x.id.toNat, by omega⟩
      obtain ⟨node, aid, kind, ver, pres, val, age⟩ := x
      dsimp only at hk o1 o2 o3 hsn
      subst hk
      rw [show ((k : Int)).toNat = k by omega] at o3 hsn
      have hkl : k < (shut h.opn (l.take j)).length := (List.getElem?_eq_some_iff.1 o3).1
      obtain ⟨ob, oc, s1, s2, s3, s4, s5, _⟩ := (unhide HR).shop.shutOne hkl
      have c0 : wr.cell? ⟨lb, j * 7, none⟩ = some (.int .i64 node) := lcell 0 (by omega)
      have c1 : wr.cell? ⟨lb, j * 7 + 1, none⟩ = some (.int .i64 (k : Int)) := lcell 1 (by omega)
      have c2 : wr.cell? ⟨lb, j * 7 + 2, none⟩ = some (.int .i64 kind) := lcell 2 (by omega)
      have c3 : wr.cell? ⟨lb, j * 7 + 3, none⟩ = some (.int .i64 ver) := lcell 3 (by omega)
      have c4 : wr.cell? ⟨lb, j * 7 + 4, none⟩ = some (.int .i64 pres) := lcell 4 (by omega)
      have c5 : wr.cell? ⟨lb, j * 7 + 5, none⟩ = some (.string val) := lcell 5 (by omega)
      have c6 : wr.cell? ⟨lb, j * 7 + 6, none⟩ = some (.int .i64 age) := lcell 6 (by omega)
      have hbsw : bs < wr.heap.size := (unhide HR).shop.lt
      have q10 : wr.cell? ⟨bs, 10, none⟩ = some (.slice (some ⟨ob, 0, none⟩) (shut h.opn (l.take j)).length oc) := by rw [← s1]; exact cell_of_cells (unhide HR).shop.block 10
      have qo : wr.cell? ⟨ob, k, none⟩ = some (.bool true) := s4 true o3
      have i0 : (0 : Int) ≤ (j : Int) := by omega
      have i1 : (j : Int) < (l.length : Int) := by omega
      generalize hm : (shut h.opn (l.take j)).length = m at *
      have k0 : (0 : Int) ≤ (k : Int) := by omega
      have k1 : (k : Int) < (m : Int) := by omega
      have kd0 : decide ((k : Int) < 0) = false := decide_eq_false (by omega)
      have kd1 : decide (m ≤ k) = false := decide_eq_false (by omega)
      clear lcell o1 o2 o3 s4
      go_wp2
      generalize hW : World.alloc _ _ = W0
      have T0 : Turn nothing wr W0 := by rw [← hW]; exact Turn.alloc _ _ _
      have hsz : W0.heap.size = wr.heap.size + 1 := by rw [← hW]; simp
      have x0 : W0.cell? ⟨wr.heap.size, 0, none⟩ = some (.int .i64 node) := by rw [← hW]; exact cell_of_cells (new1_0 wr _) 0
      have x1 : W0.cell? ⟨wr.heap.size, 1, none⟩ = some (.int .i64 (k : Int)) := by rw [← hW]; exact cell_of_cells (new1_0 wr _) 1
      have x2 : W0.cell? ⟨wr.heap.size, 2, none⟩ = some (.int .i64 kind) := by rw [← hW]; exact cell_of_cells (new1_0 wr _) 2
      have x3 : W0.cell? ⟨wr.heap.size, 3, none⟩ = some (.int .i64 ver) := by rw [← hW]; exact cell_of_cells (new1_0 wr _) 3
      have x4 : W0.cell? ⟨wr.heap.size, 4, none⟩ = some (.int .i64 pres) := by rw [← hW]; exact cell_of_cells (new1_0 wr _) 4
      have x5 : W0.cell? ⟨wr.heap.size, 5, none⟩ = some (.string val) := by rw [← hW]; exact cell_of_cells (new1_0 wr _) 5
      have x6 : W0.cell? ⟨wr.heap.size, 6, none⟩ = some (.int .i64 age) := by rw [← hW]; exact cell_of_cells (new1_0 wr _) 6
      have p10 := T0.cell q10 id
      have po := T0.cell qo id
      have HR1 := hide ((unhide HR).turn T0)
      have hxo : own1 wr.heap.size = none := (unhide HR).tier.top _ (Nat.le_refl _)
      clear hW HR c0 c1 c2 c3 c4 c5 c6 q10 qo s2 s5 lblt lbo
      go_quiet (fail)
      generalize hV : World.drewN W0 _ = V
      have TV : Turn nothing W0 V := by rw [← hV]; exact Turn.drewN _ _ _
      have hszV : W0.heap.size ≤ V.heap.size := TV.size
      have z0 := TV.cell x0 id
      have z1 := TV.cell x1 id
      have z2 := TV.cell x2 id
      have z3 := TV.cell x3 id
      have z4 := TV.cell x4 id
      have z5 := TV.cell x5 id
      have z6 := TV.cell x6 id
      have v10 := TV.cell p10 id
      have vo := TV.cell po id
      have HR2 := hide ((unhide HR1).turn TV)
      have vf : V.frozen? ⟨ob, k, none⟩ = false := by
        obtain ⟨ob2, oc2, t1, _, _, _, t5, _⟩ := (unhide HR2).shop.shutOne (j := k) (by dsimp only; omega)
        rw [s1] at t1
        cases t1
        exact t5
      clear hV HR1 x0 x1 x2 x3 x4 x5 x6 p10 po
      go_wp2
      go_region
      generalize hX : World.drew _ = X
      have HR3 : Hid (AnsLoop own own1 w X bs q b { t with answers := [] } { h with opn := shut h.opn (l.take (j + 1)) } (.slice (some ⟨lb, 0, none⟩) l.length vc) l a script) := by
        have hV' := unhide HR2
        obtain ⟨ob2, oc2, t1, _, _, _, _, t6, t7⟩ := hV'.shop.shutOne (j := k) (by dsimp only; omega)
        rw [s1] at t1
        cases t1
        rw [← hX]
        refine AnsLoop.turn (w := V.setCell ⟨ob, k, none⟩ (.bool false)) ?_ (Turn.drew _ _)
        refine ⟨hV'.tier.step1 t7 (fun k' hk' => hV'.tier.top k' (by simpa using hk')), ?_, hV'.ks.trans (KS.of_step t7), hV'.loose.step t7, hV'.scr.turnP t7.turn (fun hp ad e ⟨y, hy⟩ => ?_)⟩
        · rw [unhide hsn]; exact t6
        · rw [hV'.ks.free ad.block (unhide HSN hp ad e).2 (unhide HSN hp ad e).1] at hy; cases hy
      have TX : Turn (fun k' => k' = ob) V X := by rw [← hX]; exact ((Turn.refl (fun k' => k' = ob) V).step_set (p := ⟨ob, k, none⟩) (v := .bool false) (Or.inr rfl)).step_drew
      have hne : ¬ wr.heap.size = ob := by omega
      have y0 := TX.cell z0 hne
      have y1 := TX.cell z1 hne
      have y2 := TX.cell z2 hne
      have y3 := TX.cell z3 hne
      have y4 := TX.cell z4 hne
      have y5 := TX.cell z5 hne
      have y6 := TX.cell z6 hne
      have hszX : wr.heap.size < X.heap.size := by have := TX.size; omega
      have g6 : X.cell? ⟨bs, 6, none⟩ = some (.int .i64 h.now) := cell_of_cells (unhide HR3).shop.block 6
      have g3 : X.cell? ⟨bs, 3, none⟩ = some (.int .i64 t.c.budget) := cell_of_cells (unhide HR3).shop.block 3
      have hbsX : bs < X.heap.size := (unhide HR3).shop.lt
      clear hX HR2 TX z0 z1 z2 z3 z4 z5 z6 v10 vo vf TV T0 s1 s3 hsn
      rcases unhide hok with ⟨e1, e2, e3, e4, e5⟩ | ⟨e1, hh, ha0, ha1⟩
      · dsimp only at e1 e2 e3 e4 e5
        subst e1 e2 e3 e4 e5
        unfold Tier.empty at y5
        clear hok
        go_wp2
        go_roundw
        case rel => exact ⟨j + 1, by omega, by go_num, HR3⟩
        case measure => simp [intOf]; omega
      · dsimp only at e1 hh ha0 ha1
        subst e1
        clear hok
        go_wp2
        generalize hY : X = Y
        have TY : Turn nothing X Y := by rw [← hY]; exact Turn.refl _ _
        have HR4 := hide ((unhide HR3).turn TY)
        have u0 := TY.cell y0 id
        have u1 := TY.cell y1 id
        have u2 := TY.cell y2 id
        have u3 := TY.cell y3 id
        have u4 := TY.cell y4 id
        have u5 := TY.cell y5 id
        have u6' := TY.cell y6 id
        have v3 := TY.cell g3 id
        have KQ := hide (fun w' (T : Turn nothing Y w') => asked_of a cap script (k : Int) w' ((unhide HR4).scr.turn T (fun _ _ h => h)) hsl)
        have KH := hide (fun w' (T : Turn nothing Y w') => held_any ((unhide HR4).shop.turn T) (unhide HNOW).1 (unhide HNOW).2 (askedF script 0 (k : Int)) ⟨node, (k : Int), 1, ver, pres, val, age⟩ (0))
        dsimp only at KH
        rw [hh] at KH
        unfold ansV ansL at KH
        generalize askedF script 0 (k : Int) = ak at *
        have ad0 : decide (age < 0) = false := decide_eq_false (by omega)
        have ad1 : decide (t.c.budget < age) = false := decide_eq_false (by omega)
        clear hh HR3 TY g3 g6 y0 y1 y2 y3 y4 y5 y6 hY
        go_wp2
        have HS : ∀ w', Turn nothing Y w' → Turn nothing Y w' ∧ w'.cell? ⟨wr.heap.size, 0, none⟩ = some (.int .i64 node) ∧ w'.cell? ⟨wr.heap.size, 1, none⟩ = some (.int .i64 (k : Int)) ∧ w'.cell? ⟨wr.heap.size, 2, none⟩ = some (.int .i64 1) ∧ w'.cell? ⟨wr.heap.size, 3, none⟩ = some (.int .i64 ver) ∧ w'.cell? ⟨wr.heap.size, 4, none⟩ = some (.int .i64 pres) ∧ w'.cell? ⟨wr.heap.size, 5, none⟩ = some (.string val) ∧ w'.cell? ⟨wr.heap.size, 6, none⟩ = some (.int .i64 age) ∧ w'.cell? ⟨bs, 3, none⟩ = some (.int .i64 t.c.budget) := fun w' T => ⟨T, T.cell u0 id, T.cell u1 id, T.cell u2 id, T.cell u3 id, T.cell u4 id, T.cell u5 id, T.cell u6' id, T.cell v3 id⟩
        go_region_held3 (fun w' => Turn nothing Y w' ∧ w'.cell? ⟨wr.heap.size, 0, none⟩ = some (.int .i64 node) ∧ w'.cell? ⟨wr.heap.size, 1, none⟩ = some (.int .i64 (k : Int)) ∧ w'.cell? ⟨wr.heap.size, 2, none⟩ = some (.int .i64 1) ∧ w'.cell? ⟨wr.heap.size, 3, none⟩ = some (.int .i64 ver) ∧ w'.cell? ⟨wr.heap.size, 4, none⟩ = some (.int .i64 pres) ∧ w'.cell? ⟨wr.heap.size, 5, none⟩ = some (.string val) ∧ w'.cell? ⟨wr.heap.size, 6, none⟩ = some (.int .i64 age) ∧ w'.cell? ⟨bs, 3, none⟩ = some (.int .i64 t.c.budget)) ((go_split_ands; apply HS; all_goals (repeat (first | with_reducible assumption | with_reducible exact Turn.refl _ _ | with_reducible apply Turn.step_alloc | with_reducible apply Turn.step_drew | ((with_reducible refine Turn.step_turn (N := nothing) ?_ (by assumption) ?_); rotate_left; · exact fun _ _ h => False.elim h) | ((with_reducible refine Turn.step_set ?_ ?_); rotate_left; · first | exact Or.inr rfl | exact Or.inr (Or.inl rfl) | exact Or.inl (by simp <;> omega)) | ((with_reducible refine Turn.step_turn ?_ (Turn.grown (by assumption)) ?_); rotate_left; · exact fun _ _ h => Or.inr h) | with_reducible apply There.drew | with_reducible apply There.set | ((with_reducible refine There.turn ?_ (by assumption) ?_); rotate_left; · exact id) | assumption)))) (first | (go_at_call 51; go_split_ands; refine (unhide KQ _ (by assumption)).mono ?_; rintro e w7 ⟨rfl, T7⟩) | (go_at_call 20; go_split_ands; refine (unhide KH _ (by (repeat (first | with_reducible assumption | with_reducible exact Turn.refl _ _ | with_reducible apply Turn.step_alloc | with_reducible apply Turn.step_drew | ((with_reducible refine Turn.step_turn (N := nothing) ?_ (by assumption) ?_); rotate_left; · exact fun _ _ h => False.elim h) | ((with_reducible refine Turn.step_set ?_ ?_); rotate_left; · first | exact Or.inr rfl | exact Or.inr (Or.inl rfl) | exact Or.inl (by simp <;> omega)) | ((with_reducible refine Turn.step_turn ?_ (Turn.grown (by assumption)) ?_); rotate_left; · exact fun _ _ h => Or.inr h) | with_reducible apply There.drew | with_reducible apply There.set | ((with_reducible refine There.turn ?_ (by assumption) ?_); rotate_left; · exact id) | assumption)))).mono ?_; rintro e w8 ⟨rfl, T8⟩))
        go_split_ands
        have TE : Turn nothing Y w8 := by assumption
        have HR5 := hide ((unhide HR4).turn TE)
        clear HS KQ KH T7 T8 TE
        go_wp2
        go_quiet (fail)
        go_wp2
        go_roundw
        case rel => exact ⟨j + 1, by omega, by go_num, (unhide HR5).turn (Turn.drewN _ _ _)⟩
        case measure => simp [intOf]; omega
    · have e : j = n := by omega
      subst e
      rw [← hN, List.take_length] at HR
      go_wp2
      go_ret
      have hR := unhide HR
      subst hL
      exact ⟨rfl, own1, (unhide HS).next hR.ks ⟨q, hR.tier, hR.shop⟩ hn, hR.ks⟩

end Go.Proofs.YtpdkojgepagbnaaDoor

namespace Go.Proofs.YtpdkojgepagbnaaDoor
set_option maxRecDepth 100000
open Go.RowKit
open Tier (Mes Ans Conf St Was)
attribute [local go_sem ↓] Go.wp_at_zero Go.wp_at_succ

def awK : ByteArray := ⟨#[107]⟩
def awV : ByteArray := ⟨#[118]⟩
def aw0 : St := Tier.new ⟨[-1, 0], 0, 5, 1, 1⟩
def aw1 : St := aw0.changes ⟨awK, (aw0.item awK).ver + 1, 1, awV⟩
def aw2 : St := aw1.wants 1 awK ⟨-1, 3, 0, 0⟩
def awM : Mes := ⟨1, 1, 0, awK, 1, -1, 0, 0, Tier.empty⟩
def aw3 : St := (aw2.taken 0).comes awM
def awN : Mes := ⟨2, 0, 1, awK, 1, 1, 0, 1, awV⟩
def aw4 : St := (aw3.taken 0).comes awN
def aw5 : St := aw4.wants 1 awK ⟨-1, 4, 0, 0⟩
theorem aw2_net : aw2.net[0]? = some awM := by kernel_rfl
theorem aw3_net : aw3.net[0]? = some awN := by kernel_rfl
theorem aw5_net : aw5.net = [] := by kernel_rfl
theorem aw5_ans : aw5.answers = [⟨1, 3, 1, 1, 1, awV, 0⟩, ⟨1, 4, 1, 1, 1, awV, 0⟩] := by kernel_rfl
theorem aw_conf : aw5.c = ⟨[-1, 0], 0, 5, 1, 1⟩ ∧ aw4.c = ⟨[-1, 0], 0, 5, 1, 1⟩ ∧ aw3.c = ⟨[-1, 0], 0, 5, 1, 1⟩ ∧ aw2.c = ⟨[-1, 0], 0, 5, 1, 1⟩ ∧ aw1.c = ⟨[-1, 0], 0, 5, 1, 1⟩ := ⟨by kernel_rfl, by kernel_rfl, by kernel_rfl, by kernel_rfl, by kernel_rfl⟩
theorem awK_ok : keyB awK = true := by decide
theorem awV_ok : valB awV = true := by decide
theorem aw_few : aw0.items.length < 16 := by decide

set_option maxHeartbeats 4000000 in
theorem awake_any (w : World) (hK : KeyTab w) : Calls Tryd.prog 38 #[] w fun e w' => e = .returned (.bool true) ∧ Turn nothing w w' := by
  have hcf : confB [-1, 0] 0 5 1 1 = true := by decide
  have HK := hide hK
  go_enter Tryd.func38, Tryd.ntmps38
  go_wp2_with fail
  generalize hW : World.alloc _ _ = W0
  have T0 : Turn nothing w W0 := by rw [← hW]; exact Turn.alloc _ _ _
  have R0 : W0.ownsRow 0 3 1 (.slice (some ⟨w.heap.size, 0, none⟩) 2 2) ([-1, 0] : List Int).length (([-1, 0] : List Int).map fun z => .int .i64 z) := by
    rw [← hW]
    exact ⟨rfl, Or.inr ⟨w.heap.size, 2, #[.int .i64 (-1), .int .i64 0], rfl, Nat.zero_le _, new1_0 w _, Nat.le_refl _, by unfold maxLen; omega, rfl, rfl⟩⟩
  clear hW
  refine (New_ok (fun _ => none) 0 _ [-1, 0] 0 5 1 1 W0 R0 hcf (fun _ _ => rfl)).mono ?_
  rintro e v1 ⟨bt, own1, rfl, T1, hb1, A1, k1, _⟩
  have T01 := T0.step_turn T1 (fun _ _ h => h)
  have K1 : KS (fun _ => none) own1 w v1 := ⟨T01.mono (fun _ _ h => h.elim), fun k hk _ => k1 k (Nat.lt_of_lt_of_le hk T0.size)⟩
  have H1 : Hid (KS (fun _ => none) own1 w v1 ∧ TierAt own1 0 v1 bt 0 aw0 ∧ KeyTab v1) := ⟨K1, A1, hK.ks K1 rfl⟩
  clear A1 K1 T01 T0 T1 R0 hcf k1 hb1
  go_wp2_with fail
  refine ((unhide H1).2.1.write (unhide H1).2.2 (by omega) awK_ok awV_ok (fun _ => aw_few)).mono ?_
  rintro e v2 ⟨rfl, own2, A2, S2⟩
  have K2 := (unhide H1).1.trans (KS.of_step S2)
  have H2 : Hid (KS (fun _ => none) own2 w v2 ∧ TierAt own2 0 v2 bt 5 aw1 ∧ KeyTab v2) := ⟨K2, A2, hK.ks K2 rfl⟩
  clear A2 S2 K2
  go_wp2_with fail
  refine ((unhide H2).2.1.ask (unhide H2).2.2 (by omega) (n := 1) (id := 3) (k := awK) (by decide) (by decide) awK_ok).mono ?_
  rintro e v3 ⟨rfl, own3, A3, S3⟩
  have K3 := (unhide H2).1.trans (KS.of_step S3)
  have H3 : Hid (KS (fun _ => none) own3 w v3 ∧ TierAt own3 0 v3 bt 10 aw2 ∧ KeyTab v3) := ⟨K3, A3, hK.ks K3 rfl⟩
  clear A3 S3 K3
  go_wp2_with fail
  refine ((unhide H3).2.1.deliver (by omega) (i := 0) aw2_net).mono ?_
  rintro e v4 ⟨rfl, own4, A4, S4⟩
  have K4 := (unhide H3).1.trans (KS.of_step S4)
  have H4 : Hid (KS (fun _ => none) own4 w v4 ∧ TierAt own4 0 v4 bt 15 aw3 ∧ KeyTab v4) := ⟨K4, A4, hK.ks K4 rfl⟩
  clear A4 S4 K4
  go_wp2_with fail
  refine ((unhide H4).2.1.deliver (by omega) (i := 0) aw3_net).mono ?_
  rintro e v5 ⟨rfl, own5, A5, S5⟩
  have K5 := (unhide H4).1.trans (KS.of_step S5)
  have H5 : Hid (KS (fun _ => none) own5 w v5 ∧ TierAt own5 0 v5 bt 20 aw4 ∧ KeyTab v5) := ⟨K5, A5, hK.ks K5 rfl⟩
  clear A5 S5 K5
  go_wp2_with fail
  refine ((unhide H5).2.1.ask (unhide H5).2.2 (by omega) (n := 1) (id := 4) (k := awK) (by decide) (by decide) awK_ok).mono ?_
  rintro e v6 ⟨rfl, own6, A6, S6⟩
  have K6 := (unhide H5).1.trans (KS.of_step S6)
  have H6 : Hid (KS (fun _ => none) own6 w v6 ∧ TierAt own6 0 v6 bt 25 aw5 ∧ KeyTab v6) := ⟨K6, A6, hK.ks K6 rfl⟩
  clear A6 S6 K6
  go_wp2_with fail
  refine ((unhide H6).2.1.answers).mono ?_
  rintro e v7 ⟨va, rfl, own7, A7, S7, L7⟩
  have K7 := (unhide H6).1.trans (KS.of_step S7)
  rw [aw5_ans] at L7
  obtain ⟨lb, lc, elv, lbo, lblt, lcell⟩ := Loose.atM (f := ansL) L7 (fun _ => rfl) (j := 0) (a := (⟨1, 3, 1, 1, 1, awV, 0⟩ : Ans)) rfl
  obtain ⟨lb2, lc2, elv2, _, _, lcell2⟩ := Loose.atM (f := ansL) L7 (fun _ => rfl) (j := 1) (a := (⟨1, 4, 1, 1, 1, awV, 0⟩ : Ans)) rfl
  subst elv
  cases elv2
  have H7 : Hid (KS (fun _ => none) own7 w v7 ∧ TierAt own7 0 v7 bt 25 { aw5 with answers := [] }) := ⟨K7, A7⟩
  have c1 : v7.cell? ⟨lb, 1, none⟩ = some (.int .i64 3) := lcell 1 (by omega)
  have c2 : v7.cell? ⟨lb, 2, none⟩ = some (.int .i64 1) := lcell 2 (by omega)
  have c5 : v7.cell? ⟨lb, 5, none⟩ = some (.string awV) := lcell 5 (by omega)
  have e1 : v7.cell? ⟨lb, 8, none⟩ = some (.int .i64 4) := lcell2 1 (by omega)
  have e2 : v7.cell? ⟨lb, 9, none⟩ = some (.int .i64 1) := lcell2 2 (by omega)
  have e5 : v7.cell? ⟨lb, 12, none⟩ = some (.string awV) := lcell2 5 (by omega)
  clear A7 S7 K7 L7 lcell lcell2
  go_wp2_with fail
  refine ((unhide H7).2.net (by omega)).mono ?_
  rintro e v8 ⟨vn, rfl, T8, R8⟩
  have hnn : ({ aw5 with answers := [] } : St).net = [] := aw5_net
  rw [hnn] at R8
  obtain ⟨na, nc, hvn⟩ := row_form R8
  subst hvn
  have c1 := T8.cell c1 id
  have c2 := T8.cell c2 id
  have c5 := T8.cell c5 id
  have e1 := T8.cell e1 id
  have e2 := T8.cell e2 id
  have e5 := T8.cell e5 id
  unfold awV at c5 e5
  have HE := hide (((unhide H7).1.trans (KS.of_turn T8)).turn)
  clear T8 R8 hnn
  go_wp2
  go_ret
  exact ⟨rfl, (unhide HE).mono (fun _ _ h => h rfl)⟩

end Go.Proofs.YtpdkojgepagbnaaDoor

namespace Go.Proofs.YtpdkojgepagbnaaDoor
set_option maxRecDepth 100000
open Go.RowKit
open Tier (Mes Ans Conf St Was)

variable {own : Own} {w w1 : World} {bs : Nat} {q : ShG} {c : Conf} {h : Sh}

/-- A number or a flag of the shop's block is written. -/
theorem ShopIs.put (s : ShopIs own w bs q c h) {h' : Sh} (i : Nat) (v : Value) (h1 : (shopC q c h).setIfInBounds i v = shopC q c h') (h2 : h'.clocks = h.clocks) (h3 : h'.l = h.l) (h4 : h'.opn = h.opn) : ShopIs own (w.setCell ⟨bs, i, none⟩ v) bs q c h' ∧ Step 1 own own w (w.setCell ⟨bs, i, none⟩ v) := by
  have F : Fr (fun x => x = 1) own own 1 w (w.setCell ⟨bs, i, none⟩ v) := ⟨fun k hk x hx ho => ⟨heap_setCell_other (fun e => by rw [e, s.blockO] at ho; cases ho; exact hx rfl), rfl⟩⟩
  exact ⟨⟨by rw [heap_set s.block, h1], s.blockO, F.row s.pars (by omega), by rw [h2]; exact F.row s.clocks (by omega), by rw [h3]; exact F.row s.hist (by omega), by rw [h4]; exact F.row s.opn (by omega)⟩, ⟨(Turn.refl _ _).step_set (Or.inr ⟨1, s.blockO⟩), fun _ _ => Or.inl rfl⟩⟩

theorem ShopIs.tire (s : ShopIs own w bs q c h) : ShopIs own (w.setCell ⟨bs, 11, none⟩ (.bool true)) bs q c { h with tired := true } ∧ Step 1 own own w (w.setCell ⟨bs, 11, none⟩ (.bool true)) := s.put 11 _ rfl rfl rfl rfl
theorem ShopIs.passed (s : ShopIs own w bs q c h) (n : Int) : ShopIs own (w.setCell ⟨bs, 6, none⟩ (.int .i64 n)) bs q c { h with now := n } ∧ Step 1 own own w (w.setCell ⟨bs, 6, none⟩ (.int .i64 n)) := s.put 6 _ rfl rfl rfl rfl

/-- A clock of the caller's is written. -/
theorem ShopIs.clocked (s : ShopIs own w bs q c h) {j : Nat} (hj : j < h.clocks.length) : ∃ ob oc, q.cv = .slice (some ⟨ob, 0, none⟩) h.clocks.length oc ∧ own ob = some (1, 3) ∧ ob < w.heap.size ∧ (∀ v, h.clocks[j]? = some v → w.cell? ⟨ob, j, none⟩ = some (.int .i64 v)) ∧ w.frozen? ⟨ob, j, none⟩ = false ∧
    ∀ n : Int, ShopIs own (w.setCell ⟨ob, j, none⟩ (.int .i64 n)) bs q c { h with clocks := h.clocks.set j n } ∧ Step 1 own own w (w.setCell ⟨ob, j, none⟩ (.int .i64 n)) := by
  obtain ⟨v, hv⟩ : ∃ v, h.clocks[j]? = some v := ⟨_, List.getElem?_eq_getElem hj⟩
  obtain ⟨ob, oc, e1, e2, e3, e4, e5⟩ := s.clocks.atM (fun _ => rfl) hv
  refine ⟨ob, oc, e1, e2, e3, fun v' hv' => ?_, e5 j, fun n => ?_⟩
  · rw [hv] at hv'
    cases hv'
    have := e4 0 (by omega)
    rw [Nat.mul_one, Nat.add_zero] at this
    exact this
  · have T : Turn (Mine own 1) w (w.setCell ⟨ob, j, none⟩ (.int .i64 n)) := (Turn.refl _ _).step_set (Or.inr ⟨3, e2⟩)
    have F : Fr (fun x => x = 3) own own 1 w (w.setCell ⟨ob, j, none⟩ (.int .i64 n)) := ⟨fun k hk x hx ho => ⟨heap_setCell_other (fun e => by rw [e, e2] at ho; cases ho; exact hx rfl), rfl⟩⟩
    refine ⟨⟨F.block s.blockO (by omega) s.block, s.blockO, F.row s.pars (by omega), ?_, F.row s.hist (by omega), F.row s.opn (by omega)⟩, ⟨T, fun _ _ => Or.inl rfl⟩⟩
    have hr := s.clocks
    rw [e1] at hr ⊢
    have := hr.set1 (one_intL h.clocks) j (.int .i64 n)
    rw [List.map_set]
    exact this

/-- The past has grown by one, and the shop's block tells so. -/
theorem ShopIs.logged (s : ShopIs own w bs q c h) (htop : ∀ k, w.heap.size ≤ k → own k = none) {r : Was} {gb cap : Nat}
    (hO : w1.ownsRow 0 85 5 (.slice (some ⟨gb, 0, none⟩) ((h.l.map wasL).length + 1) cap) ((h.l.map wasL).length + 1) ((h.l.map wasL).flatten ++ wasL r)) (hg : w.grownBy w1 q.lv.ownBlock) (hat : q.lv.ownBlock = some gb ∨ gb = w.heap.size) (hlt : gb < w1.heap.size) :
    ShopIs (putO own gb (1, 4)) (w1.setCell ⟨bs, 8, none⟩ (.slice (some ⟨gb, 0, none⟩) ((h.l.map wasL).length + 1) cap)) bs { q with lv := .slice (some ⟨gb, 0, none⟩) ((h.l.map wasL).length + 1) cap } c { h with l := h.l ++ [r] } ∧
      Step 1 own (putO own gb (1, 4)) w (w1.setCell ⟨bs, 8, none⟩ (.slice (some ⟨gb, 0, none⟩) ((h.l.map wasL).length + 1) cap)) ∧ (∀ k, (w1.setCell ⟨bs, 8, none⟩ (.slice (some ⟨gb, 0, none⟩) ((h.l.map wasL).length + 1) cap)).heap.size ≤ k → putO own gb (1, 4) k = none) := by
  generalize hv : Value.slice (some ⟨gb, 0, none⟩) ((h.l.map wasL).length + 1) cap = v at *
  have hgb : own gb = some (1, 4) ∨ w.heap.size ≤ gb := hat.imp (fun h1 => s.hist.mine gb h1) (fun h1 => by omega)
  have hbt : bs ≠ gb := by
    rintro rfl
    rcases hgb with h1 | h1
    · rw [s.blockO] at h1; cases h1
    · have := s.lt; omega
  have hsame : ∀ k, k < w.heap.size → putO own gb (1, 4) k = own k := fun k hk => putO_same hgb hk
  have hblk : ∀ k, k < w.heap.size → k ≠ bs → some k ≠ q.lv.ownBlock → (w1.setCell ⟨bs, 8, none⟩ v).heap[k]? = w.heap[k]? := fun k hk h1 h2 => (heap_setCell_other h1).trans (hg.block k hk h2)
  have F : Fr (fun x => x = 1 ∨ x = 4) own (putO own gb (1, 4)) 1 w (w1.setCell ⟨bs, 8, none⟩ v) := by
    refine ⟨fun k hk x hx ho => ⟨hblk k hk ?_ ?_, hsame k hk⟩⟩
    · rintro rfl; rw [s.blockO] at ho; cases ho; exact hx (Or.inl rfl)
    · intro e; rw [s.hist.mine k e.symm] at ho; cases ho; exact hx (Or.inr rfl)
  have h1 : w1.heap[bs]? = some (.cells (shopC q c h) 52 (0, 0)) := (hg.block bs s.lt (fun e => by have := s.hist.mine bs e.symm; rw [s.blockO] at this; cases this)).trans s.block
  refine ⟨⟨?_, ?_, F.row s.pars (by omega), F.row s.clocks (by omega), ?_, F.row s.opn (by omega)⟩, ⟨⟨hg.os, hg.tape, hg.output, by simpa using hg.size, fun k hk hm => hblk k hk (fun e => hm ⟨1, by rw [e]; exact s.blockO⟩) (fun e => hm ⟨4, s.hist.mine k e.symm⟩)⟩, fun k hk => Or.inl (hsame k hk)⟩, ?_⟩
  · rw [heap_set h1]; rfl
  · rw [hsame bs s.lt]; exact s.blockO
  · have hr := row_grown (own := own) (τ := 1) (x := 4) (w2 := w1.setCell ⟨bs, 8, none⟩ v) (hv ▸ hO) (heap_setCell_other (Ne.symm hbt))
    rw [hv] at hr
    simpa using hr
  · intro k hk
    have hk1 : w1.heap.size ≤ k := by simpa using hk
    unfold putO
    rw [if_neg (by omega)]
    exact htop k (by have := hg.size; omega)

/-- One more has asked: the list of those open, and the ids. -/
theorem ShopIs.opened (s : ShopIs own w bs q c h) (htop : ∀ k, w.heap.size ≤ k → own k = none) {gb cap : Nat}
    (hO : w1.ownsRow 0 4 1 (.slice (some ⟨gb, 0, none⟩) ((h.opn.map boolL).length + 1) cap) ((h.opn.map boolL).length + 1) ((h.opn.map boolL).flatten ++ [.bool true])) (hg : w.grownBy w1 q.ov.ownBlock) (hat : q.ov.ownBlock = some gb ∨ gb = w.heap.size) (hlt : gb < w1.heap.size) :
    ShopIs (putO own gb (1, 5)) ((w1.setCell ⟨bs, 10, none⟩ (.slice (some ⟨gb, 0, none⟩) ((h.opn.map boolL).length + 1) cap)).setCell ⟨bs, 9, none⟩ (.int .i64 ((h.opn.length : Int) + 1))) bs { q with ov := .slice (some ⟨gb, 0, none⟩) ((h.opn.map boolL).length + 1) cap } c { h with opn := h.opn ++ [true] } ∧
      Step 1 own (putO own gb (1, 5)) w ((w1.setCell ⟨bs, 10, none⟩ (.slice (some ⟨gb, 0, none⟩) ((h.opn.map boolL).length + 1) cap)).setCell ⟨bs, 9, none⟩ (.int .i64 ((h.opn.length : Int) + 1))) ∧ (∀ k, ((w1.setCell ⟨bs, 10, none⟩ (.slice (some ⟨gb, 0, none⟩) ((h.opn.map boolL).length + 1) cap)).setCell ⟨bs, 9, none⟩ (.int .i64 ((h.opn.length : Int) + 1))).heap.size ≤ k → putO own gb (1, 5) k = none) := by
  generalize hv : Value.slice (some ⟨gb, 0, none⟩) ((h.opn.map boolL).length + 1) cap = v at *
  generalize hz : Value.int .i64 ((h.opn.length : Int) + 1) = z at *
  have hgb : own gb = some (1, 5) ∨ w.heap.size ≤ gb := hat.imp (fun h1 => s.opn.mine gb h1) (fun h1 => by omega)
  have hbt : bs ≠ gb := by
    rintro rfl
    rcases hgb with h1 | h1
    · rw [s.blockO] at h1; cases h1
    · have := s.lt; omega
  have hsame : ∀ k, k < w.heap.size → putO own gb (1, 5) k = own k := fun k hk => putO_same hgb hk
  have hblk : ∀ k, k < w.heap.size → k ≠ bs → some k ≠ q.ov.ownBlock → ((w1.setCell ⟨bs, 10, none⟩ v).setCell ⟨bs, 9, none⟩ z).heap[k]? = w.heap[k]? := fun k hk h1 h2 => (heap_setCell_other h1).trans ((heap_setCell_other h1).trans (hg.block k hk h2))
  have F : Fr (fun x => x = 1 ∨ x = 5) own (putO own gb (1, 5)) 1 w ((w1.setCell ⟨bs, 10, none⟩ v).setCell ⟨bs, 9, none⟩ z) := by
    refine ⟨fun k hk x hx ho => ⟨hblk k hk ?_ ?_, hsame k hk⟩⟩
    · rintro rfl; rw [s.blockO] at ho; cases ho; exact hx (Or.inl rfl)
    · intro e; rw [s.opn.mine k e.symm] at ho; cases ho; exact hx (Or.inr rfl)
  have h1 : w1.heap[bs]? = some (.cells (shopC q c h) 52 (0, 0)) := (hg.block bs s.lt (fun e => by have := s.opn.mine bs e.symm; rw [s.blockO] at this; cases this)).trans s.block
  refine ⟨⟨?_, ?_, F.row s.pars (by omega), F.row s.clocks (by omega), F.row s.hist (by omega), ?_⟩, ⟨⟨hg.os, hg.tape, hg.output, by simpa using hg.size, fun k hk hm => hblk k hk (fun e => hm ⟨1, by rw [e]; exact s.blockO⟩) (fun e => hm ⟨5, s.opn.mine k e.symm⟩)⟩, fun k hk => Or.inl (hsame k hk)⟩, ?_⟩
  · rw [heap_set (heap_set h1), ← hz]
    show some (Obj.cells #[_, _, _, _, _, _, _, _, _, Value.int .i64 ((h.opn.length : Int) + 1), _, _] _ _) = some (Obj.cells #[_, _, _, _, _, _, _, _, _, Value.int .i64 (((h.opn ++ [true]).length : Nat) : Int), _, _] _ _)
    rw [List.length_append]
    rfl
  · rw [hsame bs s.lt]; exact s.blockO
  · have hr := row_grown (own := own) (τ := 1) (x := 5) (w2 := (w1.setCell ⟨bs, 10, none⟩ v).setCell ⟨bs, 9, none⟩ z) (hv ▸ hO) ((heap_setCell_other (Ne.symm hbt)).trans (heap_setCell_other (Ne.symm hbt)))
    rw [hv] at hr
    rw [List.map_append]
    exact hr
  · intro k hk
    have hk1 : w1.heap.size ≤ k := by simpa using hk
    unfold putO
    rw [if_neg (by omega)]
    exact htop k (by have := hg.size; omega)

end Go.Proofs.YtpdkojgepagbnaaDoor

namespace Go.Proofs.YtpdkojgepagbnaaDoor
open Tier (Mes Ans Conf St Kept Wtr Ftc Cac Item Was)

def asks (l : List StepD) : Nat := (l.filter fun o => decide (o.kind = 3)).length

theorem asks_take {script : List StepD} {i : Nat} {o : StepD} (h : script[i]? = some o) : asks (script.take (i + 1)) = asks (script.take i) + if o.kind = 3 then 1 else 0 := by
  unfold asks
  rw [List.take_add_one, h, List.filter_append, List.length_append]
  congr 1
  by_cases e : o.kind = 3 <;> simp [e]

theorem askedF_at : ∀ (script : List StepD) (i : Nat) (o : StepD) (n : Int), script[i]? = some o → o.kind = 3 → askedF script n (n + asks (script.take i)) = keyD o.b
  | [], i, o, n, h, _ => by simp at h
  | p :: r, 0, o, n, h, hk => by
    simp at h
    subst h
    unfold askedF
    rw [if_pos hk, if_pos (by simp [asks])]
  | p :: r, i + 1, o, n, h, hk => by
    have h' : r[i]? = some o := by simpa using h
    unfold askedF
    by_cases e : p.kind = 3
    · have ha : asks ((p :: r).take (i + 1)) = asks (r.take i) + 1 := by unfold asks; rw [List.take_succ_cons, List.filter_cons_of_pos (by simpa using e)]; rfl
      rw [if_pos e, ha, if_neg (by omega)]
      have := askedF_at r i o (n + 1) h' hk
      rw [show n + ((asks (r.take i) + 1 : Nat) : Int) = n + 1 + (asks (r.take i) : Int) by omega]
      exact this
    · have ha : asks ((p :: r).take (i + 1)) = asks (r.take i) := by unfold asks; rw [List.take_succ_cons, List.filter_cons_of_neg (by simpa using e)]
      rw [if_neg e, ha]
      exact askedF_at r i o n h' hk

/-- Behind a step, ahead of its answers. -/
structure Mid (tm : Prop) (script : List StepD) (i : Nat) (h : Sh) (t : St) : Prop where
  inv : ∃ g : Tier.G, Tier.Inv g t ∧ Tier.HistOK g.h ∧ g.tm = tm ∧ g.h = h.l ∧ g.now = h.now ∧ (∀ id : Int, 0 ≤ id → id < h.opn.length → g.kid id = askedF script 0 id)
  neat : Tier.AllNeat t
  cnt : ∀ id : Int, Tier.cnt id t ≤ if 0 ≤ id ∧ h.opn[id.toNat]? = some true then 1 else 0
  last : ∀ k, (lastOf h.l k).ver = (t.item k).ver ∧ (lastOf h.l k).pres = (t.item k).pres
  ids : h.opn.length = asks (script.take i)
  now : 0 ≤ h.now ∧ ∀ r ∈ h.l, 0 ≤ r.frm ∧ r.frm ≤ h.now
  budget : 1 ≤ t.c.budget
  waits : 0 ≤ t.c.waiters
  four : ∀ x ∈ t.items, ∃ j, j < 4 ∧ x.key = keyI j

/-- Between steps. -/
structure Kin (tm : Prop) (script : List StepD) (i : Nat) (h : Sh) (t : St) : Prop where
  mid : Mid tm script i h t
  ans : t.answers = []

variable {tm : Prop} {script : List StepD} {i : Nat} {h : Sh} {t : St}

theorem Mid.later {o : StepD} (m : Mid tm script i h t) (ho : script[i]? = some o) (hk : o.kind ≠ 3) : Mid tm script (i + 1) h t :=
  ⟨m.inv, m.neat, m.cnt, m.last, by rw [m.ids, asks_take ho, if_neg hk]; rfl, m.now, m.budget, m.waits, m.four⟩

/-- The tier goes on, and nothing that the caller knows. -/
theorem Mid.goes (m : Mid tm script i h t) {u : St} (hg : ∀ g, Tier.Inv g t → Tier.Goes g u) (hn : Tier.AllNeat u) (hc : ∀ id, Tier.cnt id u ≤ Tier.cnt id t) (hi : u.items = t.items) (hcc : u.c = t.c) : Mid tm script i h u := by
  obtain ⟨g, I, H, a, b, c, d⟩ := m.inv
  obtain ⟨g', I', a', b', c', d', _, _⟩ := (hg g I).inv
  refine ⟨⟨g', I', by rw [b']; exact H, a'.trans a, b'.trans b, c'.trans c, fun id h0 h1 => by rw [d']; exact d id h0 h1⟩, hn, fun id => Nat.le_trans (hc id) (m.cnt id), fun k => ?_, m.ids, m.now, by rw [hcc]; exact m.budget, by rw [hcc]; exact m.waits, by rw [hi]; exact m.four⟩
  have : u.item k = t.item k := by unfold Tier.St.item; rw [hi]
  rw [this]; exact m.last k

theorem Mid.size (m : Mid tm script i h t) : t.caches.length = t.c.parents.length := by
  obtain ⟨g, I, _⟩ := m.inv
  rw [I.size, I.conf]
theorem Mid.room (m : Mid tm script i h t) : 1 ≤ t.c.entries := by
  obtain ⟨g, I, _⟩ := m.inv
  rw [I.conf]; exact I.room

theorem c_refuseAll (n : Nat) (k : ByteArray) : ∀ (l : List Wtr) (t : St), (t.refuseAll n k l).c = t.c
  | [], _ => rfl
  | x :: l, t => by
    have h1 : (t.refused n k x).c = t.c := by unfold Tier.St.refused; split <;> rfl
    exact (c_refuseAll n k l (t.refused n k x)).trans h1
theorem c_tellAll (n : Nat) (k : ByteArray) : ∀ (l : List Wtr) (t : St), (t.tellAll n k l).c = t.c
  | [], _ => rfl
  | x :: l, t => by
    have h1 : (match t.entry n k with | some e => t.toldBy n e x | none => t).c = t.c := by
      split
      · exact (Tier.told_parts t n _ x).2
      · rfl
    exact (c_tellAll n k l _).trans h1
theorem c_wants (t : St) (n : Nat) (k : ByteArray) (x : Wtr) : (t.wants n k x).c = t.c := by
  have h1 : ∀ u : St, (u.refused n k x).c = u.c := fun u => by unfold Tier.St.refused; split <;> rfl
  have h2 : ∀ tag, (if t.c.waiters ≤ t.waiting n then t.refused n k x else if (t.fetch n k).isSome then t.joins n k x else t.sends n k tag [x]).c = t.c := fun tag => by
    split
    · exact h1 t
    · split <;> rfl
  unfold Tier.St.wants
  split
  · next e _ =>
    split
    · exact (Tier.told_parts t n e x).2
    · exact h2 e.ver
  · exact h2 (-1)
theorem c_comes (t : St) (m : Mes) : (t.comes m).c = t.c := by
  unfold Tier.St.comes
  split
  · unfold Tier.St.answered
    split
    · rfl
    · split
      · rfl
      · split
        · exact c_refuseAll _ _ _ _
        · split
          · rfl
          · dsimp only
            split
            · exact c_tellAll _ _ _ _
            · exact c_refuseAll _ _ _ _
  · split
    · exact c_wants ..
    · unfold Tier.St.atOrigin
      dsimp only
      split <;> rfl
theorem c_timeout (t : St) (n : Nat) (k : ByteArray) : (t.timeout n k).c = t.c := by
  unfold Tier.St.timeout
  split
  · rfl
  · exact c_refuseAll _ _ _ _
theorem items_timeout (t : St) (n : Nat) (k : ByteArray) : (t.timeout n k).items = t.items := by
  unfold Tier.St.timeout
  split
  · rfl
  · exact items_refuseAll _ _ _ _

theorem Mid.comes (m : Mid tm script i h t) {j : Nat} {x : Mes} (hx : t.net[j]? = some x) : Mid tm script i h ((t.taken j).comes x) := by
  have hmem := List.mem_of_getElem? hx
  obtain ⟨g0, I0, _⟩ := m.inv
  have hpm := I0.says.net x hmem
  have hz := m.size
  obtain ⟨a, b⟩ := Tier.comes_ok (t := t.taken j) (Tier.neat_of m.neat rfl rfl) m.room x ⟨hpm.2.2.1, by show x.to < (t.caches.length : Int); rw [hz, I0.conf]; exact hpm.2.2.2.1⟩ (fun e => (hpm.2.2.2.2.2.1 e).1)
  refine m.goes (fun g I => Tier.inv_comes (Tier.inv_taken I j) x (I.says.net x hmem)) a (fun id => by rw [b id]; exact Nat.le_refl _) (items_comes _ _) (c_comes _ _)

theorem Mid.taken (m : Mid tm script i h t) (j : Nat) : Mid tm script i h (t.taken j) :=
  m.goes (fun _ I => Or.inl (Tier.inv_taken I j)) (Tier.neat_of m.neat rfl rfl) (fun _ => Nat.le_refl _) rfl rfl
theorem Mid.doubled (m : Mid tm script i h t) {x : Mes} (hx : x ∈ t.net) : Mid tm script i h { t with net := t.net ++ [x] } :=
  m.goes (fun _ I => Or.inl (Tier.inv_double I x hx)) (Tier.neat_of m.neat rfl rfl) (fun _ => Nat.le_refl _) rfl rfl
theorem Mid.net (m : Mid tm script i h t) (o : StepD) : Mid tm script i h (netF o t) := by
  unfold netF
  split
  · exact m
  · next x hx =>
    split
    · exact m.comes hx
    · split
      · exact m.taken _
      · split
        · exact m.doubled (List.mem_of_getElem? hx)
        · exact m
theorem Mid.timeout (m : Mid tm script i h t) {n : Nat} (hn : n < t.c.parents.length) (k : ByteArray) : Mid tm script i h (t.timeout n k) := by
  obtain ⟨a, b⟩ := Tier.timeout_ok m.neat n (by rw [m.size]; exact hn) k
  exact m.goes (fun _ I => Or.inl (Tier.inv_timeout I n k)) a (fun id => by rw [b id]; exact Nat.le_refl _) (items_timeout ..) (c_timeout ..)
theorem Mid.crash (m : Mid tm script i h t) {n : Nat} (hn : n < t.c.parents.length) : Mid tm script i h (t.crash n) := by
  obtain ⟨a, b⟩ := Tier.crash_ok m.neat n (by rw [m.size]; exact hn) (by have := m.room; omega) m.waits
  exact m.goes (fun _ I => Or.inl (Tier.inv_crash I n)) a b rfl rfl
theorem Mid.settle : ∀ (j : Nat) {t : St}, Mid tm script i h t → Mid tm script i h (settleF j t).1
  | 0, _, m => m
  | j + 1, t, m => by
    unfold settleF
    split
    · exact m
    · next x r hn => exact Mid.settle j (m.comes (j := 0) (by rw [hn]; rfl))

theorem Mid.tire (m : Mid tm script i h t) (b : Bool) : Mid tm script i { h with tired := b } t := ⟨m.inv, m.neat, m.cnt, m.last, m.ids, m.now, m.budget, m.waits, m.four⟩

/-- The origin's key is written or removed. -/
theorem Kin.changes (m : Kin tm script i h t) {k : ByteArray} (h4 : ∃ j, j < 4 ∧ k = keyI j) (p : Int) (x : ByteArray) : Mid tm script i { h with l := h.l ++ [⟨k, (lastOf h.l k).ver + 1, p, x, h.now⟩] } (t.changes ⟨k, (t.item k).ver + 1, p, x⟩) := by
  obtain ⟨g, I, H, a, b, c, d⟩ := m.mid.inv
  have hl := m.mid.last k
  have I' := Tier.inv_changes I k p x m.ans
  have H' := Tier.hist_more I H k p x
  rw [← c, hl.1, ← b]
  refine ⟨⟨_, I', H', a, rfl, rfl, d⟩, Tier.neat_of m.mid.neat rfl rfl, m.mid.cnt, fun j => ?_, m.mid.ids, ⟨(by show 0 ≤ g.now; rw [c]; exact m.mid.now.1), fun r hr => ?_⟩, m.mid.budget, m.mid.waits, fun r hr => ?_⟩
  · show (lastOf (g.h ++ [_]) j).ver = _ ∧ (lastOf (g.h ++ [_]) j).pres = _
    rw [lastOf_snoc]
    by_cases e : k = j
    · subst e
      rw [if_pos rfl, Tier.item_changes_same t ⟨k, (t.item k).ver + 1, p, x⟩]
      exact ⟨rfl, rfl⟩
    · rw [if_neg e, Tier.item_changes_other t ⟨k, (t.item k).ver + 1, p, x⟩ j e, b]
      exact m.mid.last j
  · show 0 ≤ r.frm ∧ r.frm ≤ g.now
    rw [c]
    rcases mem_snoc hr with hr | rfl
    · exact m.mid.now.2 r (b ▸ hr)
    · show 0 ≤ g.now ∧ g.now ≤ h.now
      rw [c]; exact ⟨m.mid.now.1, Int.le_refl _⟩
  · have hr : r ∈ t.items.filter (fun y => decide (y.key ≠ k)) ++ [⟨k, (t.item k).ver + 1, p, x⟩] := hr
    rcases mem_snoc hr with hr | rfl
    · exact m.mid.four r (List.mem_filter.1 hr).1
    · exact h4

/-- A client asks. -/
theorem Mid.ask (m : Mid tm script i h t) {o : StepD} (ho : script[i]? = some o) (hk : o.kind = 3) {n : Nat} (h0 : 0 < n) (hn : n < t.c.parents.length) : Mid tm script (i + 1) { h with opn := h.opn ++ [true] } (t.wants n (keyD o.b) ⟨-1, h.opn.length, 0, 0⟩) := by
  obtain ⟨g, I, H, a, b, c, d⟩ := m.inv
  have hz : Tier.cnt (h.opn.length : Int) t = 0 := by
    have := m.cnt (h.opn.length : Int)
    rw [if_neg (by simp)] at this
    omega
  have I1 := Tier.inv_asked I (h.opn.length : Int) (keyD o.b) (Tier.noId_of_cnt hz)
  have hcn : n < g.c.parents.length := by rw [← I.conf]; exact hn
  have G1 := Tier.inv_wants I1 n h0 hcn (keyD o.b) ⟨-1, h.opn.length, 0, 0⟩ ⟨fun _ => by show (if _ then _ else _) = _; rw [if_pos rfl], fun e => absurd (show (-1 : Int) < 0 by decide) e⟩
  obtain ⟨g', I', a', b', c', d', _, _⟩ := G1.inv
  obtain ⟨w1, w2⟩ := Tier.wants_ok m.neat n (by rw [m.size]; exact hn) m.room (keyD o.b) ⟨-1, h.opn.length, 0, 0⟩
  refine ⟨⟨g', I', by rw [b']; exact H, a'.trans a, b'.trans b, c'.trans c, fun id h0 h1 => ?_⟩, w1, fun id => ?_, fun k => ?_, ?_, m.now, by rw [c_wants]; exact m.budget, by rw [c_wants]; exact m.waits, by rw [items_wants]; exact m.four⟩
  · rw [d']
    show (if id = (h.opn.length : Int) then keyD o.b else g.kid id) = _
    have h1 : id < ((h.opn ++ [true]).length : Int) := h1
    split
    · next e =>
      have := askedF_at script i o 0 ho hk
      rw [← m.ids, Int.zero_add] at this
      rw [e, this]
    · next e => exact d id h0 (by simp at h1; omega)
  · rw [w2 id]
    have hc := m.cnt id
    unfold Tier.one Tier.isC
    by_cases e : (h.opn.length : Int) = id
    · subst e
      rw [hz, if_pos (by simp)]
      simp
    · rw [decide_eq_false e]
      show Tier.cnt id t + (if (true && false) = true then 1 else 0) ≤ _
      simp only [Bool.and_false, Bool.false_eq_true, if_false, Nat.add_zero]
      refine Nat.le_trans hc ?_
      show (if _ then _ else _) ≤ (if 0 ≤ id ∧ (h.opn ++ [true])[id.toNat]? = some true then 1 else 0)
      split
      · next q =>
        have hq : (h.opn ++ [true])[id.toNat]? = some true := by rw [List.getElem?_append_left (List.getElem?_eq_some_iff.1 q.2).1]; exact q.2
        rw [if_pos ⟨q.1, hq⟩]
        exact Nat.le_refl _
      · exact Nat.zero_le _
  · have : (t.wants n (keyD o.b) ⟨-1, h.opn.length, 0, 0⟩).item k = t.item k := by unfold Tier.St.item; rw [items_wants]
    rw [this]; exact m.last k
  · show (h.opn ++ [true]).length = _
    rw [asks_take ho, if_pos hk, List.length_append, m.ids]; rfl

/-- Every step but the passing of time. -/
theorem Kin.step (m : Kin tm script i h t) {o : StepD} (ho : script[i]? = some o) (hk : o.kind ≠ 2) (hp : 2 ≤ t.c.parents.length) : Mid tm script (i + 1) (stepF o h t).1 (stepF o h t).2 := by
  have hca := cacheD_ok hp o.a
  have hky : ∃ j, j < 4 ∧ keyD o.a = keyI j := by
    have := pickN_ok o.a (n := 4) (by decide)
    exact ⟨(pickN o.a 4).toNat, by omega, rfl⟩
  unfold stepF
  by_cases k0 : o.kind = 0
  · rw [if_pos k0]; exact (m.changes hky 1 (cutS o.s)).later ho (by omega)
  rw [if_neg k0]
  by_cases k1 : o.kind = 1
  · rw [if_pos k1]
    split
    · exact m.mid.later ho (by omega)
    · exact (m.changes hky 0 Tier.empty).later ho (by omega)
  rw [if_neg k1, if_neg hk]
  by_cases k3 : o.kind = 3
  · rw [if_pos k3]; exact m.mid.ask ho k3 hca.1 hca.2
  rw [if_neg k3]
  have m' := m.mid.later ho k3
  split
  · exact m'.net o
  · split
    · exact m'.timeout hca.2 _
    · split
      · exact m'.crash hca.2
      · split
        · exact (m'.settle 100000).tire _
        · exact m'

end Go.Proofs.YtpdkojgepagbnaaDoor
