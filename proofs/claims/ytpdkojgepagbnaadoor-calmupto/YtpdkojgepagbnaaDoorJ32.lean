/-
  All messages come; a step on a message.
  A step on a message.
  Time goes by; answers are given: what holds of a script's play is kept.
  Time goes on, and each clock.
  The origin's key is written by a step.
-/
import Derived.Test.YtpdkojgepagbnaaDoorJ29
import Derived.BigQuiet
import Derived.Deep.RegionHeld3
import Derived.Test.YtpdkojgepagbnaaDoorJ05
namespace Go.Proofs.YtpdkojgepagbnaaDoor
set_option maxRecDepth 100000
open Go.RowKit
open Tier (Mes Ans Conf St Was)
attribute [local go_sem ↓] Go.wp_at_zero Go.wp_at_succ

variable {n0 : Nat} {own own' : Own} {w w' : World} {bs b : Nat} {t t' : St} {h h' : Sh}

/-- The shop behind a call on its tier, in one word. -/
def Behind (n0 : Nat) (own : Own) (w : World) (bs b : Nat) (t : St) (h : Sh) (w' : World) : Prop := ∃ own', Shop n0 own' w' bs b t h ∧ KS own own' w w'

set_option maxHeartbeats 2000000 in
theorem settles_any (S : Shop n0 own w bs b t h) (hn : n0 ≤ w.heap.size) (hb : b + 500010 ≤ 1000000000000) :
    Calls Tryd.prog 18 #[.pointer (some ⟨bs, 0, none⟩)] w fun e w' => e = .returned (.bool true) ∧ Behind n0 own w bs (b + 500000) (settleF 100000 t).1 { h with tired := h.tired || (settleF 100000 t).2 } w' := by
  have HS := hide S
  have HB := hide hb
  clear S hb
  generalize hF : settleF 100000 t = F
  go_enter Tryd.func18, Tryd.ntmps18
  go_wp2
  go_loopw [3, 4, 5] (fun i _ _ wr => ∃ (j : Nat) (own' : Own) (t' : St), j ≤ 100000 ∧ i = .int .i64 (j : Int) ∧ Hid (Shop n0 own' wr bs (b + 5 * j) t' h ∧ KS own own' w wr ∧ n0 ≤ wr.heap.size ∧ settleF (100000 - j) t' = F)) (fun i _ _ _ => 100000 - (intOf i).toNat)
  case atStart => exact ⟨0, own, t, Nat.zero_le _, rfl, unhide HS, KS.refl _ _, hn, hF⟩
  case round =>
    obtain ⟨j, own', t', j1, rfl, HR⟩ := hrel
    clear HS hF
    obtain ⟨q, ht, hq⟩ := (unhide HR).1.is
    have d0 : wr.cell? ⟨bs, 0, none⟩ = some (.pointer (some ⟨q.bt, 0, none⟩)) := cell_of_cells hq.block 0
    have HQ := hide hq
    by_cases hlt : j < 100000
    · have KN := hide (ht.net (by have := unhide HB; omega))
      have i1 : (j : Int) < 100000 := by omega
      cases hnet : t'.net with
      | nil =>
        have hfin : Hid (F = (t', false)) := by
          have := (unhide HR).2.2.2
          rw [show 100000 - j = (100000 - j - 1) + 1 by omega] at this
          unfold settleF at this
          rw [hnet] at this
          exact this.symm
        rw [hnet] at KN
        clear ht hq hnet
        go_wp2_with fail
        refine (unhide KN).mono ?_
        rintro e w1 ⟨v, rfl, T1, R1⟩
        obtain ⟨a, c, hv⟩ := row_form R1
        subst hv
        clear R1 KN
        go_wp2
        go_ret
        refine ⟨rfl, own', ?_, (unhide HR).2.1.trans (KS.of_turn T1)⟩
        rw [unhide hfin]
        have := ((unhide HR).1.turn T1).mono (b' := b + 500000) (by omega)
        simpa using this
      | cons m r =>
        have hm : Hid (t'.net[0]? = some m) := by show t'.net[0]? = some m; rw [hnet]; rfl
        have hnl : t'.net.length ≠ 0 := by rw [hnet]; simp
        have hfin : Hid (settleF (100000 - (j + 1)) ((t'.taken 0).comes m) = F) := by
          have := (unhide HR).2.2.2
          rw [show 100000 - j = (100000 - (j + 1)) + 1 by omega] at this
          unfold settleF at this
          rw [hnet] at this
          exact this
        generalize t'.net.length = nl at *
        obtain ⟨nk, rfl⟩ : ∃ nk, nl = nk + 1 := ⟨nl - 1, by omega⟩
        have HLT := hide hlt
        have HJ1 := hide j1
        clear ht hq hnet hnl hlt j1
        go_wp2_with fail
        refine (unhide KN).mono ?_
        rintro e w1 ⟨v, rfl, T1, R1⟩
        obtain ⟨a, c, hv⟩ := row_form R1
        subst hv
        have HS1 := hide ((unhide HR).1.turn T1)
        have HQ1 := hide ((unhide HQ).turn T1)
        obtain ⟨q2, ht2, hq2⟩ := (unhide HS1).is
        have e0 : w1.cell? ⟨bs, 0, none⟩ = some (.pointer (some ⟨q2.bt, 0, none⟩)) := cell_of_cells hq2.block 0
        have KD := hide (ht2.deliver (by have := unhide HB; omega) (unhide hm))
        have HQ2 := hide hq2
        have hn1 : n0 ≤ w1.heap.size := Nat.le_trans (unhide HR).2.2.1 T1.size
        have HT1 := hide T1
        clear R1 KN ht2 hq2 T1 HQ HQ1 d0
        clear i1
        go_wp2_with fail
        refine (unhide KD).mono ?_
        rintro e w2 ⟨rfl, L2⟩
        obtain ⟨own2, S2, K2⟩ := (unhide HS1).leaves hn1 (unhide HQ2) L2 (c_comes _ _)
        have HR2 : Hid (Shop n0 own2 w2 bs (b + 5 * (j + 1)) ((t'.taken 0).comes m) h ∧ KS own own2 w w2 ∧ n0 ≤ w2.heap.size ∧ settleF (100000 - (j + 1)) ((t'.taken 0).comes m) = F) :=
          ⟨S2.mono (by omega), ((unhide HR).2.1.trans (KS.of_turn (unhide HT1))).trans K2, Nat.le_trans hn1 K2.turn.size, unhide hfin⟩
        have hw : IntKind.i64.wrap ((j : Int) + 1) = (j : Int) + 1 := by have := unhide HLT; rw [IntKind.wrap_i64]; omega
        clear L2 S2 K2 KD
        go_wp2
        go_roundw
        case rel => exact ⟨j + 1, own2, _, by have := unhide HLT; omega, by simp, HR2⟩
        case measure => have := unhide HLT; simp [intOf]; omega
    · have e : j = 100000 := by omega
      subst e
      have hfin : Hid (F = (t', true)) := (unhide HR).2.2.2.symm
      have d11 : wr.cell? ⟨bs, 11, none⟩ = some (.bool h.tired) := cell_of_cells hq.block 11
      have f11 : wr.frozen? ⟨bs, 11, none⟩ = false := frozen_of_cells hq.block 11
      have HT := hide hq.tire
      have HTI := hide ht
      clear ht hq
      go_wp2
      go_ret
      have K1 := KS.of_step (unhide HT).2
      refine ⟨rfl, own', ?_, (unhide HR).2.1.trans K1⟩
      rw [unhide hfin]
      have := (unhide HR).1.next K1 ⟨q, (unhide HTI).step1 (unhide HT).2 (fun k hk => (unhide HTI).top k (by simpa using hk)), (unhide HT).1⟩ (unhide HR).2.2.1
      simpa using this

end Go.Proofs.YtpdkojgepagbnaaDoor

namespace Go.Proofs.YtpdkojgepagbnaaDoor
set_option maxRecDepth 100000
open Go.RowKit
open Tier (Mes Ans Conf St Was)
attribute [local go_sem ↓] Go.wp_at_zero Go.wp_at_succ

variable {n0 : Nat} {own own' : Own} {w w' : World} {bs b : Nat} {t t' : St} {h h' : Sh}

def stepV (o : StepD) : Value := .agg #[.int .i64 o.kind, .int .i64 o.a, .int .i64 o.b, .string o.s]

theorem netF_none {o : StepD} (hn : t.net = []) : netF o t = t := by
  unfold netF
  rw [hn]; rfl
theorem netF_at {o : StepD} {i : Nat} {m : Mes} (hi : pickN o.a t.net.length = (i : Int)) (hm : t.net[i]? = some m) : netF o t = if o.kind = 4 then (t.taken i).comes m else if o.kind = 5 then t.taken i else if t.net.length < 64 then { t with net := t.net ++ [m] } else t := by
  unfold netF
  rw [hi, show ((i : Int)).toNat = i by omega, hm]

set_option maxHeartbeats 2000000 in
theorem net_none (S : Shop n0 own w bs b t h) (hb : b + 10 ≤ 1000000000000) (o : StepD) (hn : t.net = []) :
    Calls Tryd.prog 45 #[.pointer (some ⟨bs, 0, none⟩), stepV o] w fun e w' => e = .returned (.bool true) ∧ Turn nothing w w' := by
  have HB := hide hb
  obtain ⟨q, ht, hq⟩ := S.is
  have d0 : w.cell? ⟨bs, 0, none⟩ = some (.pointer (some ⟨q.bt, 0, none⟩)) := cell_of_cells hq.block 0
  have hbs := hq.lt
  have KN := hide (fun w' (T : Turn nothing w w') => (ht.turn T).net (by have := unhide HB; omega))
  rw [hn] at KN
  clear S ht hq hb
  unfold stepV
  go_enter Tryd.func45, Tryd.ntmps45
  go_wp2_with fail
  refine (unhide KN _ (Turn.alloc _ _ _)).mono ?_
  rintro e w1 ⟨v, rfl, T1, R1⟩
  obtain ⟨a, c, hv⟩ := row_form R1
  subst hv
  have HT := hide ((Turn.alloc nothing w _).step_turn T1 (fun _ _ h => h))
  clear R1 KN T1
  go_wp2
  go_ret
  exact ⟨rfl, unhide HT⟩

set_option maxHeartbeats 4000000 in
theorem net_some (S : Shop n0 own w bs b t h) (hn : n0 ≤ w.heap.size) (hb : b + 10 ≤ 1000000000000) (o : StepD) (ha : I64 o.a) (hk : o.kind = 4 ∨ o.kind = 5 ∨ o.kind = 6) (i : Nat) (m : Mes) (hi : pickN o.a t.net.length = (i : Int)) (hm : t.net[i]? = some m) :
    Calls Tryd.prog 45 #[.pointer (some ⟨bs, 0, none⟩), stepV o] w fun e w' => e = .returned (.bool true) ∧ Behind n0 own w bs (b + 5) (netF o t) h w' := by
  have HB := hide hb
  have hil : i < t.net.length := (List.getElem?_eq_some_iff.1 hm).1
  have HRR := hide (netF_at hi hm)
  generalize netF o t = R at *
  obtain ⟨q, ht, hq⟩ := S.is
  have d0 : w.cell? ⟨bs, 0, none⟩ = some (.pointer (some ⟨q.bt, 0, none⟩)) := cell_of_cells hq.block 0
  have hbs := hq.lt
  have KN := hide (fun w' (T : Turn nothing w w') => (ht.turn T).net (by have := unhide HB; omega))
  have hnb := ht.netLen.1
  have KP := hide (fun w' => pick_i64 o.a t.net.length w' ha (by omega))
  rw [hi] at KP
  have KD := hide (fun w' (T : Turn nothing w w') => (ht.turn T).deliver (by have := unhide HB; omega) hm)
  have KL := hide (fun w' (T : Turn nothing w w') => (ht.turn T).lose (by have := unhide HB; omega) hm)
  have KU := hide (fun w' (T : Turn nothing w w') (hl : t.net.length < 64) => (ht.turn T).double hm hl)
  have KF := hide (fun w' (T : Turn nothing w w') (hl : 64 ≤ t.net.length) => (ht.turn T).doubleFull (by have := unhide HB; omega) hil hl)
  have HL : Hid (∀ w' w'' t', Turn nothing w w' → Leaves own 0 w' q.bt (b + 5) t' w'' → t'.c = t.c → Behind n0 own w bs (b + 5) t' h w'') := fun w' w'' t' T L hc => by
    obtain ⟨own2, S2, K2⟩ := (S.turn T).leaves (Nat.le_trans hn T.size) (hq.turn T) L hc
    exact ⟨own2, S2, (KS.of_turn T).trans K2⟩
  have HN := hide hnb
  clear S ht hq hb hi hm hnb
  have hnet : Hid (t.net.length = t.net.length) := rfl
  generalize hln : t.net.length = nl at *
  obtain ⟨nk, rfl⟩ : ∃ nk, nl = nk + 1 := ⟨nl - 1, by omega⟩
  obtain ⟨kind, a, bb, s⟩ := o
  dsimp only at ha hk KP HRR ⊢
  clear ha hnet
  unfold stepV
  dsimp only
  have T0 : Turn nothing w (w.alloc (.cells #[.int .i64 kind, .int .i64 a, .int .i64 bb, .string s] 45)) := Turn.alloc _ _ _
  go_enter Tryd.func45, Tryd.ntmps45
  go_wp2_with fail
  refine (unhide KN _ T0).mono ?_
  rintro e w1 ⟨v, rfl, T1, R1⟩
  obtain ⟨va, vc, hv⟩ := row_form R1
  subst hv
  have c0 : w1.cell? ⟨w.heap.size, 0, none⟩ = some (.int .i64 kind) := T1.cell (cell_of_cells (new1_0 w _) 0) id
  have c1 : w1.cell? ⟨w.heap.size, 1, none⟩ = some (.int .i64 a) := T1.cell (cell_of_cells (new1_0 w _) 1) id
  have T2 := T0.step_turn T1 (fun _ _ h => h)
  have e0 := T2.cell d0 id
  have HT2 := hide T2
  clear R1 KN T1 T2 T0 d0
  go_wp2_with fail
  refine (unhide KP w1).mono ?_
  rintro e w2 ⟨rfl, rfl⟩
  rcases hk with hk | hk | hk
  · subst hk
    go_wp2_with fail
    refine (unhide KD _ (unhide HT2)).mono ?_
    rintro e w2 ⟨rfl, L⟩
    have HE := hide (unhide HL _ _ _ (unhide HT2) L (c_comes _ _))
    clear L
    go_wp2
    go_ret
    exact ⟨rfl, by rw [unhide HRR]; exact unhide HE⟩
  · subst hk
    go_wp2_with fail
    refine (unhide KL _ (unhide HT2)).mono ?_
    rintro e w2 ⟨rfl, L⟩
    have HE := hide (unhide HL _ _ _ (unhide HT2) L rfl)
    clear L
    go_wp2
    go_ret
    exact ⟨rfl, by rw [unhide HRR]; exact unhide HE⟩
  · subst hk
    by_cases hf : nk + 1 < 64
    · go_wp2_with fail
      refine (unhide KU _ (unhide HT2) hf).mono ?_
      rintro e w2 ⟨rfl, L⟩
      have HE := hide (unhide HL _ _ _ (unhide HT2) L rfl)
      clear L
      go_wp2
      go_ret
      exact ⟨rfl, by rw [unhide HRR, if_neg (by decide), if_neg (by decide), if_pos hf]; exact unhide HE⟩
    · have hf' : (64 : Int) ≤ (nk : Int) + 1 := by omega
      go_wp2_with fail
      refine (unhide KF _ (unhide HT2) (by omega)).mono ?_
      rintro e w2 ⟨rfl, L⟩
      have HE := hide (unhide HL _ _ _ (unhide HT2) L rfl)
      clear L
      go_wp2
      go_ret
      exact ⟨rfl, by rw [unhide HRR, if_neg (by decide), if_neg (by decide), if_neg hf]; exact unhide HE⟩

theorem net_any (S : Shop n0 own w bs b t h) (hn : n0 ≤ w.heap.size) (hb : b + 10 ≤ 1000000000000) (o : StepD) (ha : I64 o.a) (hk : o.kind = 4 ∨ o.kind = 5 ∨ o.kind = 6) :
    Calls Tryd.prog 45 #[.pointer (some ⟨bs, 0, none⟩), stepV o] w fun e w' => e = .returned (.bool true) ∧ Behind n0 own w bs (b + 5) (netF o t) h w' := by
  by_cases hz : t.net = []
  · refine (net_none S hb o hz).mono ?_
    rintro e w' ⟨rfl, T⟩
    rw [netF_none hz]
    exact ⟨rfl, own, (S.turn T).mono (by omega), KS.of_turn T⟩
  · have hl : 0 < t.net.length := List.length_pos_iff.2 hz
    have hp := pickN_ok o.a (n := (t.net.length : Int)) (by omega)
    obtain ⟨m, hm⟩ : ∃ m, t.net[(pickN o.a t.net.length).toNat]? = some m := ⟨_, List.getElem?_eq_getElem (by omega)⟩
    exact net_some S hn hb o ha hk _ m (by omega) hm

end Go.Proofs.YtpdkojgepagbnaaDoor

namespace Go.Proofs.YtpdkojgepagbnaaDoor
open Tier (Mes Ans Conf St Kept Wtr Ftc Cac Item Was)

variable {tm : Prop} {script : List StepD} {i : Nat} {h : Sh} {t : St}

theorem cac_tick {t : St} {n : Nat} (hn : n < t.caches.length) (c : Int) (m : Nat) : (t.tick n c).cac m = if m = n then { t.cac n with clock := c } else t.cac m := by
  unfold Tier.St.tick
  rw [Tier.cac_set]
  by_cases e : m = n
  · rw [if_pos ⟨e, hn⟩, if_pos e]
  · rw [if_neg (fun x => e x.1), if_neg e]

theorem cc_ticked {t u : St} {ck : Nat → Int} (hu : Tier.Ticked t u ck) (id : Int) : Tier.cc id u.caches = Tier.cc id t.caches := by
  have e : u.caches.map (fun c => Tier.cf id c.fts) = t.caches.map (fun c => Tier.cf id c.fts) := by
    apply List.ext_getElem
    · simp [hu.size]
    · intro n h1 h2
      simp only [List.length_map] at h1 h2
      have a : u.cac n = u.caches[n] := by unfold Tier.St.cac; rw [List.getD_eq_getElem?_getD, List.getElem?_eq_getElem h1]; rfl
      have b : t.cac n = t.caches[n] := by unfold Tier.St.cac; rw [List.getD_eq_getElem?_getD, List.getElem?_eq_getElem h2]; rfl
      have := hu.cac n
      rw [a, b] at this
      simp only [List.getElem_map]
      rw [this]
  unfold Tier.cc
  rw [e]

theorem Kin.ticked (m : Kin tm script i h t) {u : St} {ck : Nat → Int} (hu : Tier.Ticked t u ck) (d : Int) (hd : 0 ≤ d) (hck : ∀ n, (t.cac n).clock ≤ ck n) (hdr : tm → ∀ n, 0 < n → n < t.c.parents.length → (1000000 - t.c.drift) * d ≤ 1000000 * (ck n - (t.cac n).clock)) (cl : List Int) : Kin tm script i { h with now := h.now + d, clocks := cl } u := by
  obtain ⟨g, I, H, a, b, c, e⟩ := m.mid.inv
  have I' := Tier.inv_ticks I ck hu d hd (fun n => by rw [← I.clk n]; exact hck n) (fun htm n h0 h1 => by rw [← I.clk n, ← I.conf]; exact hdr (a ▸ htm) n h0 (by rw [I.conf]; exact h1)) m.ans
  refine ⟨⟨⟨_, I', H, a, b, by show g.now + d = h.now + d; rw [c], e⟩, fun n => ?_, fun id => ?_, fun k => ?_, m.mid.ids, ⟨by have := m.mid.now.1; show 0 ≤ h.now + d; omega, fun r hr => by have := m.mid.now.2 r hr; show 0 ≤ r.frm ∧ r.frm ≤ h.now + d; omega⟩, by rw [hu.c]; exact m.mid.budget, by rw [hu.c]; exact m.mid.waits, by rw [hu.items]; exact m.mid.four⟩, by rw [hu.answers]; exact m.ans⟩
  · rw [hu.cac n, hu.c]
    obtain ⟨x, y, z, v⟩ := m.mid.neat n
    exact ⟨x, y, z, v⟩
  · have : Tier.cnt id u = Tier.cnt id t := by unfold Tier.cnt; rw [cc_ticked hu, hu.answers]
    rw [this]; exact m.mid.cnt id
  · have : u.item k = t.item k := by unfold Tier.St.item; rw [hu.items]
    rw [this]; exact m.mid.last k

theorem ticked_one {t : St} {n : Nat} (hn : n < t.caches.length) (c : Int) : Tier.Ticked t (t.tick n c) (fun m => if m = n then c else (t.cac m).clock) := by
  refine ⟨fun m => ?_, Tier.length_set t n _, rfl, rfl, rfl, rfl, rfl⟩
  rw [cac_tick hn]
  split
  · next e => rw [e]
  · rfl
theorem ticked_none (t : St) : Tier.Ticked t t (fun m => (t.cac m).clock) := ⟨fun _ => rfl, rfl, rfl, rfl, rfl, rfl, rfl⟩

/-- Whatever the clocks are told. -/
theorem Kin.anyTick (m : Kin False script i h t) {n : Nat} (hn : n < t.c.parents.length) (r : Int) : Kin False script i h (t.tick n (max (t.cac n).clock r)) := by
  have := m.ticked (ticked_one (by rw [m.mid.size]; exact hn) (max (t.cac n).clock r)) 0 (Int.le_refl _) (fun x => by show _ ≤ (if x = n then _ else _); by_cases e : x = n; (· rw [if_pos e, e]; omega); (· rw [if_neg e]; exact Int.le_refl _)) (fun e => e.elim) h.clocks
  rw [Int.add_zero] at this
  exact this
theorem Kin.anyTime (m : Kin False script i h t) : Kin False script i { h with now := h.now + 1 } t :=
  m.ticked (ticked_none t) 1 (by decide) (fun _ => Int.le_refl _) (fun e => e.elim) h.clocks

theorem leastD_ok {drift n : Int} (hd : drift ≤ 500000) (h0 : 0 ≤ n) : 0 ≤ leastD drift n ∧ n * (1000000 - drift) ≤ leastD drift n * 1000000 := by
  have hp : 0 ≤ n * (1000000 - drift) := Int.mul_nonneg h0 (by omega)
  unfold leastD
  generalize n * (1000000 - drift) = u at *
  split <;> omega
theorem moreD_ok (b : Int) (k : Nat) : 0 ≤ moreD b k := (pickN_ok _ (by decide)).1

/-- The clocks go on, each by what it must and more. -/
theorem passF_ok {drift n b : Int} (hl : 0 ≤ leastD drift n) : ∀ (f k : Nat) (cl : List Int) (t : St), 0 < k → k + f = cl.length → cl.length = t.caches.length → (∀ j, k ≤ j → j < cl.length → cl.getD j 0 = (t.cac j).clock) → (∀ j, 0 < j → (passF drift n b f k cl t).1.getD j 0 ≤ 1099511627776) →
    (passF drift n b f k cl t).1.length = cl.length ∧ (∀ j, j < k → (passF drift n b f k cl t).1.getD j 0 = cl.getD j 0) ∧ (∀ j, k ≤ j → j < cl.length → (passF drift n b f k cl t).1.getD j 0 = cl.getD j 0 + leastD drift n + moreD b j) ∧
    Tier.Ticked t (passF drift n b f k cl t).2 (fun j => if k ≤ j ∧ j < cl.length then (passF drift n b f k cl t).1.getD j 0 else (t.cac j).clock)
  | 0, k, cl, t, _, hk, _, _, _ => by
    refine ⟨rfl, fun _ _ => rfl, fun j h1 h2 => by omega, ?_⟩
    have e : (fun j => if k ≤ j ∧ j < cl.length then (passF drift n b 0 k cl t).1.getD j 0 else (t.cac j).clock) = fun j => (t.cac j).clock := by
      funext j
      rw [if_neg (by omega)]
    rw [e]
    exact ticked_none t
  | f + 1, k, cl, t, h0, hk, hlen, hag, hno => by
    have hkl : k < cl.length := by omega
    have hck := hag k (Nat.le_refl _) hkl
    have hm := moreD_ok b k
    unfold passF at hno ⊢
    generalize hc : cl.getD k 0 + leastD drift n + moreD b k = c at *
    have hset : ∀ j, (cl.set k c).getD j 0 = if j = k then c else cl.getD j 0 := fun j => by
      rw [List.getD_eq_getElem?_getD, List.getD_eq_getElem?_getD, List.getElem?_set]
      by_cases e : k = j
      · subst e; rw [if_pos rfl, if_pos hkl, if_pos rfl]; rfl
      · rw [if_neg e, if_neg (Ne.symm e)]
    by_cases hgt : 1099511627776 < c
    · rw [if_pos hgt] at hno
      have := hno k h0
      dsimp only at this
      rw [hset, if_pos rfl] at this
      omega
    · rw [if_neg hgt] at hno ⊢
      have hmax : max (t.cac k).clock c = c := by omega
      rw [hmax] at hno ⊢
      have hkt : k < t.caches.length := by omega
      obtain ⟨r1, r2, r3, r4⟩ := passF_ok (b := b) hl f (k + 1) (cl.set k c) (t.tick k c) (by omega) (by simp; omega) (by rw [List.length_set, hlen]; exact (Tier.length_set t k _).symm) (fun j h1 h2 => by
        rw [List.length_set] at h2
        rw [hset, if_neg (by omega), cac_tick hkt, if_neg (by omega)]
        exact hag j (by omega) h2) hno
      rw [List.length_set] at r1 r3 r4
      refine ⟨r1, fun j hj => ?_, fun j h1 h2 => ?_, ⟨fun j => ?_, r4.size.trans (Tier.length_set t k _), r4.net, r4.answers, r4.items, r4.serial, r4.c⟩⟩
      · rw [r2 j (by omega), hset, if_neg (by omega)]
      · by_cases e : j = k
        · subst e
          rw [r2 j (by omega), hset, if_pos rfl, hc]
        · rw [r3 j (by omega) h2, hset, if_neg e]
      · rw [r4.cac j, cac_tick hkt]
        by_cases e : j = k
        · subst e
          rw [if_pos rfl, if_neg (by omega)]
          rw [if_pos ⟨Nat.le_refl _, hkl⟩, r2 j (by omega), hset, if_pos rfl]
        · rw [if_neg e]
          by_cases e2 : k ≤ j ∧ j < cl.length
          · rw [if_pos (by omega), if_pos e2]
          · rw [if_neg (by omega), if_neg e2]

/-- The caller's clocks are the caches'. -/
structure Agree (h : Sh) (t : St) : Prop where
  len : h.clocks.length = t.c.parents.length
  is : ∀ k, 0 < k → k < t.c.parents.length → h.clocks.getD k 0 = (t.cac k).clock
  zero : h.clocks.getD 0 0 = 0

theorem overB_not {h : Sh} (ho : overB h = false) : h.tired = false ∧ ∀ j, 0 < j → h.clocks.getD j 0 ≤ 1099511627776 := by
  unfold overB at ho
  rw [Bool.or_eq_false_iff] at ho
  refine ⟨ho.1, fun j hj => ?_⟩
  rw [List.getD_eq_getElem?_getD]
  cases hg : h.clocks[j]? with
  | none => show (0 : Int) ≤ _; decide
  | some c =>
    have hm : c ∈ h.clocks.drop 1 := List.mem_of_getElem? (i := j - 1) (by rw [List.getElem?_drop]; rw [show 1 + (j - 1) = j by omega]; exact hg)
    have := List.any_eq_false.1 ho.2 c hm
    show c ≤ _
    simp at this
    omega

theorem Kin.pass (m : Kin tm script i h t) (ag : Agree h t) (hd : 0 ≤ t.c.drift ∧ t.c.drift ≤ 500000) {o : StepD} (ho : script[i]? = some o) (hk : o.kind = 2) (hp : 2 ≤ t.c.parents.length) (hov : overB (stepF o h t).1 = false) :
    Mid tm script (i + 1) (stepF o h t).1 (stepF o h t).2 ∧ Agree (stepF o h t).1 (stepF o h t).2 := by
  have hn := (pickN_ok o.a (n := 1000) (by decide)).1
  have hl := leastD_ok hd.2 hn
  have hstep : stepF o h t = ({ h with now := h.now + pickN o.a 1000, clocks := (passF t.c.drift (pickN o.a 1000) o.b (h.clocks.length - 1) 1 h.clocks t).1 }, (passF t.c.drift (pickN o.a 1000) o.b (h.clocks.length - 1) 1 h.clocks t).2) := by
    unfold stepF
    rw [if_neg (by omega), if_neg (by omega), if_pos hk]
  rw [hstep] at hov ⊢
  have hno := (overB_not hov).2
  dsimp only at hno ⊢
  have hlen := ag.len
  have hz := m.mid.size
  obtain ⟨r1, r2, r3, r4⟩ := passF_ok (b := o.b) hl.1 (h.clocks.length - 1) 1 h.clocks t (by decide) (by omega) (by omega) (fun j h1 h2 => ag.is j (by omega) (by omega)) hno
  generalize hr : passF t.c.drift (pickN o.a 1000) o.b (h.clocks.length - 1) 1 h.clocks t = r at *
  have hck : ∀ j, (t.cac j).clock ≤ if 1 ≤ j ∧ j < h.clocks.length then r.1.getD j 0 else (t.cac j).clock := fun j => by
    split
    · next e =>
      rw [r3 j e.1 e.2, ag.is j (by omega) (by omega)]
      have := moreD_ok o.b j
      omega
    · exact Int.le_refl _
  have K := m.ticked r4 (pickN o.a 1000) hn hck (fun _ j h0 h1 => by
    rw [if_pos ⟨h0, by omega⟩, r3 j h0 (by omega), ag.is j h0 h1]
    have h2 := moreD_ok o.b j
    have h3 := hl.2
    rw [Int.mul_comm] at h3
    generalize (1000000 - t.c.drift) * pickN o.a 1000 = u at *
    omega) r.1
  refine ⟨K.mid.later ho (by omega), ⟨by show r.1.length = _; rw [r4.c]; omega, fun k h0 h1 => ?_, by show r.1.getD 0 0 = 0; rw [r2 0 (by decide)]; exact ag.zero⟩⟩
  rw [r4.c] at h1
  rw [r4.cac k]
  show r.1.getD k 0 = if 1 ≤ k ∧ k < h.clocks.length then r.1.getD k 0 else (t.cac k).clock
  rw [if_pos ⟨h0, by omega⟩]

/-! ### answers -/
theorem shut_other {l : List Bool} {m : Nat} : ∀ {a : List Ans}, (∀ x ∈ a, x.id.toNat ≠ m) → (shut l a)[m]? = l[m]? := by
  intro a
  induction a generalizing l with
  | nil => intro _; rfl
  | cons x r ih =>
    intro hx
    show (shut (l.set x.id.toNat false) r)[m]? = _
    rw [ih (fun y hy => hx y (List.mem_cons_of_mem _ hy)), List.getElem?_set, if_neg (hx x List.mem_cons_self)]
theorem shut_true {l : List Bool} {m : Nat} : ∀ {a : List Ans}, (shut l a)[m]? = some true → l[m]? = some true ∧ ∀ x ∈ a, x.id.toNat ≠ m := by
  intro a
  induction a generalizing l with
  | nil => intro e; exact ⟨e, fun x hx => by cases hx⟩
  | cons x r ih =>
    intro e
    obtain ⟨h1, h2⟩ := ih (l := l.set x.id.toNat false) e
    rw [List.getElem?_set] at h1
    by_cases hx : x.id.toNat = m
    · rw [if_pos hx] at h1
      split at h1 <;> cases h1
    · rw [if_neg hx] at h1
      refine ⟨h1, fun y hy => ?_⟩
      rcases List.mem_cons.1 hy with rfl | hy
      · exact hx
      · exact h2 y hy

theorem countP_two {α : Type} {p : α → Bool} {l : List α} {j : Nat} {a x : α} (hj : l[j]? = some a) (ha : p a = true) (hx : x ∈ l.take j) (hp : p x = true) : 2 ≤ l.countP p := by
  have h1 : 1 ≤ (l.take j).countP p := List.countP_pos_iff.2 ⟨x, hx, hp⟩
  have h2 : 1 ≤ (l.drop j).countP p := List.countP_pos_iff.2 ⟨a, List.mem_of_getElem? (i := 0) (by rw [List.getElem?_drop]; simpa using hj), ha⟩
  have h3 : l.countP p = (l.take j).countP p + (l.drop j).countP p := by rw [← List.countP_append, List.take_append_drop]
  omega

theorem Mid.opens (m : Mid tm script i h t) {a : Ans} (ha : a ∈ t.answers) : 0 ≤ a.id ∧ h.opn[a.id.toNat]? = some true ∧ Tier.ca a.id t.answers = 1 ∧ Tier.cc a.id t.caches = 0 := by
  have h1 : 1 ≤ Tier.ca a.id t.answers := List.countP_pos_iff.2 ⟨a, ha, by simp⟩
  have h2 : Tier.cc a.id t.caches + Tier.ca a.id t.answers ≤ _ := m.cnt a.id
  split at h2
  · next e => exact ⟨e.1, e.2, by omega, by omega⟩
  · omega

theorem Mid.answers (m : Mid tm script i h t) {budget frm : Int} (hok : ∀ g : Tier.G, Tier.Inv g t → Tier.HistOK g.h → g.tm = tm → g.h = h.l → g.now = h.now → ∀ a ∈ t.answers, a.kind = 1 → Tier.heldB g.h (g.kid a.id) a.ver a.pres a.val g.now frm = true ∧ 0 ≤ a.age ∧ a.age ≤ budget) :
    AnsAll script budget frm h t.answers ∧ Kin tm script i { h with opn := shut h.opn t.answers } { t with answers := [] } := by
  have hlt : ∀ a ∈ t.answers, a.id.toNat < h.opn.length := fun a ha => (List.getElem?_eq_some_iff.1 (m.opens ha).2.1).1
  obtain ⟨g, I, H, e1, e2, e3, e4⟩ := m.inv
  refine ⟨⟨fun j a hj => ?_, fun a ha => ?_⟩, ⟨⟨g, Tier.inv_told I, H, e1, e2, e3, fun id h0 h1 => e4 id h0 (by simpa [shut_length] using h1)⟩, Tier.neat_of m.neat rfl rfl, fun id => ?_, m.last, by rw [shut_length]; exact m.ids, m.now, m.budget, m.waits, m.four⟩, rfl⟩
  · have ha := List.mem_of_getElem? hj
    obtain ⟨o1, o2, o3, _⟩ := m.opens ha
    refine ⟨o1, by have := hlt a ha; omega, ?_⟩
    rw [shut_other (fun x hx e => ?_)]
    · exact o2
    · have hx0 := (m.opens (List.mem_of_mem_take hx)).1
      have : 2 ≤ Tier.ca a.id t.answers := countP_two (p := fun y : Ans => decide (y.id = a.id)) (l := t.answers) hj (decide_eq_true rfl) hx (decide_eq_true (show x.id = a.id by omega))
      omega
  · rcases I.says.answers a ha with ⟨k2, v, p, x, ag⟩ | ⟨k1, _⟩
    · exact Or.inl ⟨k2, v, p, x, ag⟩
    · obtain ⟨b1, b2, b3⟩ := hok g I H e1 e2 e3 a ha k1
      have := hlt a ha
      have := (m.opens ha).1
      rw [e2, e3, e4 a.id (by omega) (by omega)] at b1
      exact Or.inr ⟨k1, b1, b2, b3⟩
  · have h2 : Tier.cc id t.caches + Tier.ca id t.answers ≤ _ := m.cnt id
    show Tier.cc id t.caches + 0 ≤ if 0 ≤ id ∧ (shut h.opn t.answers)[id.toNat]? = some true then 1 else 0
    split
    · split at h2 <;> omega
    · next hq =>
      split at h2
      · next hp =>
        have : ∃ a ∈ t.answers, a.id.toNat = id.toNat := by
          refine Classical.byContradiction fun hne => hq ⟨hp.1, ?_⟩
          rw [shut_other (fun x hx e => hne ⟨x, hx, e⟩)]
          exact hp.2
        obtain ⟨a, ha, e⟩ := this
        have hai := (m.opens ha).1
        have hz := (m.opens ha).2.2.2
        have : a.id = id := by omega
        rw [this] at hz
        omega
      · omega

/-- Of time. -/
theorem Mid.answersTimed (m : Mid True script i h t) : AnsAll script t.c.budget (h.now - t.c.budget) h t.answers ∧ Kin True script i { h with opn := shut h.opn t.answers } { t with answers := [] } := by
  refine m.answers (fun g I H e1 e2 e3 a ha hk => ?_)
  have := Tier.told_held I H (by rw [e1]; trivial) (by rw [← I.conf]; exact m.budget) ha hk
  rw [← I.conf, e3] at this
  rw [e3]
  exact this

/-- Of any time. -/
theorem Mid.answersAny (m : Mid tm script i h t) : AnsAll script t.c.budget 0 h t.answers ∧ Kin tm script i { h with opn := shut h.opn t.answers } { t with answers := [] } := by
  refine m.answers (fun g I H e1 e2 e3 a ha hk => ?_)
  have := Tier.told_known I H (by rw [e2]; exact fun r hr => (m.now.2 r hr).1) (by rw [e3]; have := m.now.1; omega) ha hk
  rw [← I.conf] at this
  exact this

end Go.Proofs.YtpdkojgepagbnaaDoor

namespace Go.Proofs.YtpdkojgepagbnaaDoor
set_option maxRecDepth 100000
open Go.RowKit
open Tier (Mes Ans Conf St Was)
attribute [local go_sem ↓] Go.wp_at_zero Go.wp_at_succ

variable {n0 : Nat} {own own' : Own} {w w' : World} {bs b : Nat} {t t' : St} {h h' : Sh}

theorem tdiv_i64 {a : Int} (ha : I64 a) (k : Nat) : I64 (a.tdiv k) := by
  unfold I64 at *
  have h1 : (a.tdiv k).natAbs ≤ a.natAbs := by rw [Int.natAbs_tdiv]; exact Nat.div_le_self _ _
  by_cases h0 : 0 ≤ a
  · have := Int.tdiv_nonneg h0 (show (0 : Int) ≤ (k : Int) by omega)
    omega
  · have h2 : (-a).tdiv k = -(a.tdiv k) := Int.neg_tdiv ..
    have := Int.tdiv_nonneg (show 0 ≤ -a by omega) (show (0 : Int) ≤ (k : Int) by omega)
    omega

theorem leastD_le {drift n : Int} (hd : 0 ≤ drift ∧ drift ≤ 500000) (h0 : 0 ≤ n ∧ n < 1000) : 0 ≤ n * (1000000 - drift) ∧ n * (1000000 - drift) ≤ 1000000000 ∧ leastD drift n ≤ 1000 := by
  have hp : 0 ≤ n * (1000000 - drift) := Int.mul_nonneg h0.1 (by omega)
  have hq : n * (1000000 - drift) ≤ n * 1000000 := Int.mul_le_mul_of_nonneg_left (by omega) h0.1
  unfold leastD
  generalize n * (1000000 - drift) = u at *
  refine ⟨hp, by omega, ?_⟩
  split <;> omega

/-- The clocks go on from one of them on. -/
structure PassLoop (n0 : Nat) (own0 own : Own) (w0 w : World) (bs b : Nat) (t0 t : St) (h : Sh) (k : Nat) (n more : Int) (r : List Int × St) : Prop where
  shop : Shop n0 own w bs b t h
  ks : KS own0 own w0 w
  low : n0 ≤ w.heap.size
  c : t.c = t0.c
  len : h.clocks.length = t0.c.parents.length
  clk : ∀ j, k ≤ j → j < h.clocks.length → 0 ≤ h.clocks.getD j 0 ∧ h.clocks.getD j 0 ≤ 1099511627776
  goes : passF t0.c.drift n more (h.clocks.length - k) k h.clocks t = r

set_option maxHeartbeats 8000000 in
theorem passes_any (S : Shop n0 own w bs b t h) (hn : n0 ≤ w.heap.size) (hb : b + 100 ≤ 1000000000000) (n more : Int) (hnn : 0 ≤ n ∧ n < 1000) (hm : I64 more) (hclk : ∀ j, j < h.clocks.length → 0 ≤ h.clocks.getD j 0 ∧ h.clocks.getD j 0 ≤ 1099511627776) (hlen : h.clocks.length = t.c.parents.length) (hnow : 0 ≤ h.now ∧ h.now ≤ 1000000000000000) :
    Calls Tryd.prog 44 #[.pointer (some ⟨bs, 0, none⟩), .int .i64 n, .int .i64 more] w fun e w' => e = .returned (.bool true) ∧ Behind n0 own w bs (b + 50) (passF t.c.drift n more (h.clocks.length - 1) 1 h.clocks t).2 { h with now := h.now + n, clocks := (passF t.c.drift n more (h.clocks.length - 1) 1 h.clocks t).1 } w' := by
  have HB := hide hb
  have HNN := hide hnn
  have HMM := hide hm
  obtain ⟨q, ht, hq⟩ := S.is
  have hl6 := ht.len
  have HDR : Hid (0 ≤ t.c.drift ∧ t.c.drift ≤ 500000) := by
    obtain ⟨g, s, _, Sn, _, R, _⟩ := ht.is
    rw [R.c]; exact Sn.drift
  have d6 : w.cell? ⟨bs, 6, none⟩ = some (.int .i64 h.now) := cell_of_cells hq.block 6
  have f6 : w.frozen? ⟨bs, 6, none⟩ = false := frozen_of_cells hq.block 6
  have hwn : IntKind.i64.wrap (h.now + n) = h.now + n := by rw [IntKind.wrap_i64]; omega
  obtain ⟨P1, P2⟩ := hq.passed (h.now + n)
  obtain ⟨r, hr⟩ : ∃ r, passF t.c.drift n more (h.clocks.length - 1) 1 h.clocks t = r := ⟨_, rfl⟩
  have H0 : Hid (PassLoop n0 own own w (w.setCell ⟨bs, 6, none⟩ (.int .i64 (h.now + n))) bs (b + 5 * 1) t t { h with now := h.now + n } 1 n more r) := by
    have K := KS.of_step P2
    exact ⟨(S.mono (b' := b + 5 * 1) (by omega)).next K ⟨q, (ht.mono (by omega)).step1 P2 (fun k hk => ht.top k (by simpa using hk)), P1⟩ hn, K, by simpa using hn, rfl, hlen, fun j _ hj => hclk j hj, hr⟩
  rw [hr]
  have hl7 : 2 ≤ h.clocks.length ∧ h.clocks.length ≤ 6 := by omega
  generalize hcl : h.clocks.length = len at *
  have HLEN := hide hlen
  clear S ht hq P1 P2 hb hnn hm hclk hnow hr hlen hl6
  go_enter Tryd.func44, Tryd.ntmps44
  go_wp2
  generalize hW : World.setCell _ _ _ = W0 at *
  clear hW
  go_loopw [7, 8, 9, 10] (fun i _ _ _ wr => ∃ (k : Nat) (own' : Own) (t' : St) (cl : List Int), 1 ≤ k ∧ k ≤ len ∧ cl.length = len ∧ i = .int .i64 (k : Int) ∧ Hid (PassLoop n0 own own' w wr bs (b + 5 * k) t t' { h with now := h.now + n, clocks := cl } k n more r)) (fun i _ _ _ _ => len - (intOf i).toNat)
  case atStart => exact ⟨1, own, t, h.clocks, Nat.le_refl _, by omega, hcl, rfl, H0⟩
  case round =>
    clear H0
    obtain ⟨k, own', t', cl, k1, kn, kl, rfl, HR⟩ := hrel
    obtain ⟨q, ht, hq⟩ := (unhide HR).shop.is
    obtain ⟨ca, cc0, hcv⟩ := row_form hq.clocks.row
    rw [List.length_map] at hcv
    dsimp only at hcv
    rw [kl] at hcv
    have d7 : wr.cell? ⟨bs, 7, none⟩ = some (.slice ca len cc0) := by rw [← hcv]; exact cell_of_cells hq.block 7
    by_cases hlt : k < len
    · obtain ⟨cb, cc, e1, e2, e3, e4, e5, e6⟩ := hq.clocked (j := k) (by show k < cl.length; omega)
      dsimp only at e1
      rw [hcv, kl] at e1
      cases e1
      obtain ⟨c, hv⟩ : ∃ c, cl[k]? = some c := ⟨_, List.getElem?_eq_getElem (by omega)⟩
      have dk : wr.cell? ⟨cb, k, none⟩ = some (.int .i64 c) := e4 _ hv
      have HCG : Hid (cl.getD k 0 = c) := by show cl.getD k 0 = c; rw [List.getD_eq_getElem?_getD, hv]; rfl
      have HCL := hide ((unhide HR).clk k (Nat.le_refl _) (by show k < cl.length; omega))
      dsimp only at HCL
      rw [unhide HCG] at HCL
      clear hv e4
      have d2 : wr.cell? ⟨bs, 2, none⟩ = some (.int .i64 t.c.drift) := by rw [← (unhide HR).c]; exact cell_of_cells hq.block 2
      have d0 : wr.cell? ⟨bs, 0, none⟩ = some (.pointer (some ⟨q.bt, 0, none⟩)) := cell_of_cells hq.block 0
      have i0 : (0 : Int) ≤ (k : Int) := by omega
      have i1 : (k : Int) < (len : Int) := by omega
      obtain ⟨u0, u1, u2⟩ := leastD_le (unhide HDR) (unhide HNN)
      have hw1 : IntKind.i64.wrap (1000000 - t.c.drift) = 1000000 - t.c.drift := by have := unhide HDR; rw [IntKind.wrap_i64]; omega
      have hL : leastD t.c.drift n = if n * (1000000 - t.c.drift) / 1000000 * 1000000 < n * (1000000 - t.c.drift) then n * (1000000 - t.c.drift) / 1000000 + 1 else n * (1000000 - t.c.drift) / 1000000 := rfl
      have HL0 := hide (leastD_ok (unhide HDR).2 (unhide HNN).1).1
      generalize hgL : leastD t.c.drift n = L at *
      have HGL := hide hgL
      clear hgL
      generalize hU : n * (1000000 - t.c.drift) = U at *
      have hw2 : IntKind.i64.wrap U = U := by rw [IntKind.wrap_i64]; omega
      have hw3 : IntKind.i64.wrap (U.tdiv 1000000) = U / 1000000 := by rw [Int.tdiv_eq_ediv_of_nonneg u0, IntKind.wrap_i64]; omega
      have hw4 : IntKind.i64.wrap (U / 1000000 * 1000000) = U / 1000000 * 1000000 := by rw [IntKind.wrap_i64]; omega
      have hw5 : IntKind.i64.wrap (U / 1000000 + 1) = U / 1000000 + 1 := by rw [IntKind.wrap_i64]; omega
      have HUU := hide (And.intro u0 (And.intro u1 u2))
      clear u0 u1 u2
      go_upto_if 42 with fail
      go_cut [9] from 20 to 87 (fun d wx => d = .int .i64 L ∧ wx = wr)
      case first =>
        by_cases hd : U / 1000000 * 1000000 < U
        · rw [if_pos hd] at hL
          go_wp2
          go_meet
          exact ⟨by rw [hL], rfl⟩
        · rw [if_neg hd] at hL
          go_wp2
          go_meet
          exact ⟨by rw [hL], rfl⟩
      case rest =>
        obtain ⟨rfl, rfl⟩ := hcut
        rename World => V
        clear hw1 hw2 hw3 hw4 hw5 hL hU
        have hne : ¬ bs = cb := fun e => by rw [← e, hq.blockO] at e2; cases e2
        have hkz : ¬ k = 0 := by omega
        have hwq : IntKind.i64.wrap (more.tdiv (k : Int)) = more.tdiv (k : Int) := by have := tdiv_i64 (unhide HMM) k; unfold I64 at this; rw [IntKind.wrap_i64]; omega
        have HM5 := hide (pickN_ok (more.tdiv (k : Int)) (n := 5) (by decide))
        have KP := hide (fun w' => pick_i64 (more.tdiv (k : Int)) 5 w' (tdiv_i64 (unhide HMM) k) (by decide))
        have hmd : pickN (more.tdiv (k : Int)) 5 = moreD more k := rfl
        rw [hmd] at HM5 KP
        generalize hMd : moreD more k = M at *
        have hwc1 : IntKind.i64.wrap (c + L) = c + L := by have h1 := unhide HCL; have h2 := unhide HUU; have h3 := unhide HL0; rw [IntKind.wrap_i64]; omega
        have hwc2 : IntKind.i64.wrap (c + L + M) = c + L + M := by have h1 := unhide HCL; have h2 := unhide HUU; have h3 := unhide HL0; have h4 := unhide HM5; rw [IntKind.wrap_i64]; omega
        have HS : ∀ w', Turn (fun k' => k' = cb) V w' → Turn (fun k' => k' = cb) V w' ∧ w'.cell? ⟨bs, 7, none⟩ = some (.slice (some ⟨cb, 0, none⟩) len cc0) := fun w' T => ⟨T, T.cell d7 hne⟩
        go_wp2
        go_cut [] from 20 to 87 (fun wx => wx = (V.setCell ⟨cb, k, none⟩ (.int .i64 (c + L + M))).drew)
        case first =>
          refine wp_region_noPanic ?_
          refine wp_region_held_drew (S := fun w' => Turn (fun k' => k' = cb) V w' ∧ w'.cell? ⟨bs, 7, none⟩ = some (.slice (some ⟨cb, 0, none⟩) len cc0)) (by kernel_rfl) (HS _ (Turn.refl _ _).step_drew) (fun hHeld => ?_)
          refine wpAnyH_take (i := 0) (v := ?_) rfl (by kernel_rfl) (by kernel_rfl) (by kernel_rfl) (fun _ _ _ h => h) (Or.inl ⟨by rfl, ?hy⟩) (by assumption) ?_
          case hy => intro w hSw; (try dsimp only at hSw); go_simp; (try with_reducible rfl)
          (try go_frame)
          refine wpAnyH_take (i := 1) (v := ?_) rfl (by kernel_rfl) (by kernel_rfl) (by kernel_rfl) (fun _ _ _ h => h) (Or.inl ⟨by rfl, ?hy⟩) (by assumption) ?_
          case hy => intro w hSw; (try dsimp only at hSw); go_simp; (try with_reducible rfl)
          (try go_frame)
          refine wpAnyH_take (i := 2) (v := ?_) rfl (by kernel_rfl) (by kernel_rfl) (by kernel_rfl) (fun _ _ _ h => h) (Or.inl ⟨by rfl, ?hy⟩) (by assumption) ?_
          case hy => intro w hSw; (try dsimp only at hSw); go_simp; (try with_reducible rfl)
          (try go_frame)
          refine wpAnyH_take (i := 3) (v := ?_) rfl (by kernel_rfl) (by kernel_rfl) (by kernel_rfl) (fun _ _ _ h => h) (Or.inl ⟨by rfl, ?hy⟩) (by assumption) ?_
          case hy => intro w hSw; (try dsimp only at hSw); go_simp; (try with_reducible rfl)
          (try go_frame)
          refine wpAnyH_take (i := 4) (v := ?_) rfl (by kernel_rfl) (by kernel_rfl) (by kernel_rfl) (fun _ _ _ h => h) (Or.inl ⟨by rfl, ?hy⟩) (by assumption) ?_
          case hy => intro w hSw; (try dsimp only at hSw); go_simp; (try with_reducible rfl)
          (try go_frame)
          refine wpAnyH_take (i := 5) (v := ?_) rfl (by kernel_rfl) (by kernel_rfl) (by kernel_rfl) (fun _ _ _ h => h) (Or.inl ⟨by rfl, ?hy⟩) (by assumption) ?_
          case hy => intro w hSw; (try dsimp only at hSw); go_simp; (try with_reducible rfl)
          (try go_frame)
          refine wpAnyH_take (i := 6) (v := ?_) rfl (by kernel_rfl) (by kernel_rfl) (by kernel_rfl) (fun _ _ _ h => h) (Or.inl ⟨by rfl, ?hy⟩) (by assumption) ?_
          case hy => intro w hSw; (try dsimp only at hSw); go_simp; (try with_reducible rfl)
          (try go_frame)
          refine wpAnyH_take (i := 7) (v := ?_) rfl (by kernel_rfl) (by kernel_rfl) (by kernel_rfl) (fun _ _ _ h => h) (Or.inl ⟨by rfl, ?hy⟩) (by assumption) ?_
          case hy => intro w hSw; (try dsimp only at hSw); go_simp; (try with_reducible rfl)
          (try go_frame)
          refine wpAnyH_take (i := 8) (v := ?_) rfl (by kernel_rfl) (by kernel_rfl) (by kernel_rfl) (fun _ _ _ h => h) (Or.inl ⟨by rfl, ?hy⟩) (by assumption) ?_
          case hy => intro w hSw; (try dsimp only at hSw); go_simp; (try with_reducible rfl)
          (try go_frame)
          refine wpAnyH_take (i := 9) (v := ?_) rfl (by kernel_rfl) (by kernel_rfl) (by kernel_rfl) (fun _ _ _ h => h) (Or.inl ⟨by rfl, ?hy⟩) (by assumption) ?_
          case hy => intro w hSw; (try dsimp only at hSw); go_simp; (try with_reducible rfl)
          (try go_frame)
          refine wpAnyH_take (i := 10) (v := ?_) rfl (by kernel_rfl) (by kernel_rfl) (by kernel_rfl) (fun _ _ _ h => h) (Or.inl ⟨by rfl, ?hy⟩) (by assumption) ?_
          case hy => intro w hSw; (try dsimp only at hSw); go_simp; (try with_reducible rfl)
          (try go_frame)
          refine wpAnyH_take (i := 12) (v := ?_) rfl (by kernel_rfl) (by kernel_rfl) (by kernel_rfl) (fun _ _ _ h => h) (Or.inl ⟨by rfl, ?hy⟩) (by assumption) ?_
          case hy => intro w hSw; (try dsimp only at hSw); go_simp; (try with_reducible rfl)
          (try go_frame)
          refine wpAnyH_take (i := 14) (v := ?_) rfl (by kernel_rfl) (by kernel_rfl) (by kernel_rfl) (fun _ _ _ h => h) (Or.inl ⟨by rfl, ?hy⟩) (by assumption) ?_
          case hy => intro w hSw; (try dsimp only at hSw); go_simp; (try with_reducible rfl)
          (try go_frame)
          refine wpAnyH_take (i := 15) (v := ?_) rfl (by kernel_rfl) (by kernel_rfl) (by kernel_rfl) (fun _ _ _ h => h) (Or.inl ⟨by rfl, ?hy⟩) (by assumption) ?_
          case hy => intro w hSw; (try dsimp only at hSw); go_simp; (try with_reducible rfl)
          (try go_frame)
          refine wpAnyH_take (i := 16) (v := ?_) rfl (by kernel_rfl) (by kernel_rfl) (by kernel_rfl) (fun _ _ _ h => h) (Or.inl ⟨by rfl, ?hy⟩) (by assumption) ?_
          case hy => intro w hSw; (try dsimp only at hSw); go_simp; (try with_reducible rfl)
          (try go_frame)
          refine wpAnyH_ready (rs := [11, 17]) (by kernel_rfl) (by simp) ?_
          refine AllReadyH.cons rfl (fun K hK => ?_) (AllReadyH.cons rfl (fun K hK => ?_) AllReadyH.nil)
          · go_simp
            refine hK.out _ _ (HS _ (Turn.refl _ _).step_drew) (fun hHeld => ?_)
            clear hK K
            refine wpAnyH_take (i := 13) (v := ?_) rfl (by kernel_rfl) (by kernel_rfl) (by kernel_rfl) (fun _ _ _ h => h) (Or.inl ⟨by rfl, ?hy⟩) (by assumption) ?_
            case hy => intro w hSw; (try dsimp only at hSw); go_simp; (try with_reducible rfl)
            (try go_frame)
            refine wpAnyH_ready (rs := [17]) (by kernel_rfl) (by simp) ?_
            refine AllReadyH.cons rfl (fun K hK => ?_) AllReadyH.nil
            go_simp
            refine (unhide KP _).mono ?_
            rintro e w7 ⟨rfl, rfl⟩
            refine hK.out _ _ (HS _ (Turn.refl _ _).step_drew) (fun hHeld => ?_)
            clear hK K
            refine wpAnyH_take (i := 18) (v := ?_) rfl (by kernel_rfl) (by kernel_rfl) (by kernel_rfl) (fun _ _ _ h => h) (Or.inl ⟨by rfl, ?hy⟩) (by assumption) ?_
            case hy => intro w hSw; (try dsimp only at hSw); go_simp; (try with_reducible rfl)
            (try go_frame)
            refine wpAnyH_take (i := 19) (v := ?_) rfl (by kernel_rfl) (by kernel_rfl) (by kernel_rfl) (fun _ _ _ h => h) (Or.inl ⟨by rfl, ?hy⟩) (by assumption) ?_
            case hy => intro w hSw; (try dsimp only at hSw); go_simp; (try with_reducible rfl)
            (try go_frame)
            refine wpAnyH_ready (rs := [20]) (by kernel_rfl) (by simp) ?_
            refine AllReadyH.cons rfl (fun K hK => ?_) AllReadyH.nil
            go_simp
            refine hK.out _ _ (HS _ ((Turn.refl _ _).step_drew.step_set (Or.inr rfl))) (fun hHeld => ?_)
            clear hK K
            refine wpAnyH_done (by kernel_rfl) ?_ _
            refine NoPanic.normal ?_
            go_wp2
            go_meet
            rfl
          · go_simp
            refine (unhide KP _).mono ?_
            rintro e w7 ⟨rfl, rfl⟩
            refine hK.out _ _ (HS _ (Turn.refl _ _).step_drew) (fun hHeld => ?_)
            clear hK K
            refine wpAnyH_ready (rs := [11]) (by kernel_rfl) (by simp) ?_
            refine AllReadyH.cons rfl (fun K hK => ?_) AllReadyH.nil
            go_simp
            refine hK.out _ _ (HS _ (Turn.refl _ _).step_drew) (fun hHeld => ?_)
            clear hK K
            refine wpAnyH_take (i := 13) (v := ?_) rfl (by kernel_rfl) (by kernel_rfl) (by kernel_rfl) (fun _ _ _ h => h) (Or.inl ⟨by rfl, ?hy⟩) (by assumption) ?_
            case hy => intro w hSw; (try dsimp only at hSw); go_simp; (try with_reducible rfl)
            (try go_frame)
            refine wpAnyH_take (i := 18) (v := ?_) rfl (by kernel_rfl) (by kernel_rfl) (by kernel_rfl) (fun _ _ _ h => h) (Or.inl ⟨by rfl, ?hy⟩) (by assumption) ?_
            case hy => intro w hSw; (try dsimp only at hSw); go_simp; (try with_reducible rfl)
            (try go_frame)
            refine wpAnyH_take (i := 19) (v := ?_) rfl (by kernel_rfl) (by kernel_rfl) (by kernel_rfl) (fun _ _ _ h => h) (Or.inl ⟨by rfl, ?hy⟩) (by assumption) ?_
            case hy => intro w hSw; (try dsimp only at hSw); go_simp; (try with_reducible rfl)
            (try go_frame)
            refine wpAnyH_ready (rs := [20]) (by kernel_rfl) (by simp) ?_
            refine AllReadyH.cons rfl (fun K hK => ?_) AllReadyH.nil
            go_simp
            refine hK.out _ _ (HS _ ((Turn.refl _ _).step_drew.step_set (Or.inr rfl))) (fun hHeld => ?_)
            clear hK K
            refine wpAnyH_done (by kernel_rfl) ?_ _
            refine NoPanic.normal ?_
            go_wp2
            go_meet
            rfl
        case rest =>
          rename World => X
          obtain ⟨P1, P2⟩ := e6 (c + L + M)
          have x0' : (V.setCell ⟨cb, k, none⟩ (.int .i64 (c + L + M))).cell? ⟨bs, 0, none⟩ = some (.pointer (some ⟨q.bt, 0, none⟩)) := cell_of_cells P1.block 0
          have x7' : (V.setCell ⟨cb, k, none⟩ (.int .i64 (c + L + M))).cell? ⟨bs, 7, none⟩ = some (.slice (some ⟨cb, 0, none⟩) len cc0) := by rw [← hcv]; exact cell_of_cells P1.block 7
          have xk' : (V.setCell ⟨cb, k, none⟩ (.int .i64 (c + L + M))).cell? ⟨cb, k, none⟩ = some (.int .i64 (c + L + M)) := by simp [go_sem, dk]
          have K1 : KS own' own' V X := by rw [hcut]; exact (KS.of_step P2).trans (KS.of_turn (Turn.drew _ _))
          have TX : Turn nothing (V.setCell ⟨cb, k, none⟩ (.int .i64 (c + L + M))) X := by rw [hcut]; exact Turn.drew _ _
          have HTX := hide ((ht.step1 P2 (fun k' hk' => ht.top k' (by simpa using hk'))).turn TX)
          have HQX := hide (P1.turn TX)
          have HRX : Hid (Shop n0 own' X bs (b + 5 * k) t' { h with now := h.now + n, clocks := cl.set k (c + L + M) } ∧ KS own own' w X ∧ n0 ≤ X.heap.size) :=
            ⟨(unhide HR).shop.next K1 ⟨q, unhide HTX, unhide HQX⟩ (unhide HR).low, (unhide HR).ks.trans K1, Nat.le_trans (unhide HR).low K1.turn.size⟩
          have x0 := TX.cell x0' id
          have x7 := TX.cell x7' id
          have xk := TX.cell xk' id
          have hgo := (unhide HR).goes
          dsimp only at hgo
          rw [kl, show len - k = (len - (k + 1)) + 1 by omega] at hgo
          unfold passF at hgo
          rw [unhide HCG, unhide HGL, hMd] at hgo
          have HGO := hide hgo
          have h6 := (unhide HTX).len
          have hkp : k < t'.c.parents.length := by rw [(unhide HR).c, ← unhide HLEN]; exact hlt
          have HN : Hid (0 ≤ c + L + M) := by have h1 := unhide HCL; have h3 := unhide HL0; have h4 := unhide HM5; show 0 ≤ c + L + M; omega
          have hnb : ¬ Mine own' 0 bs := fun ⟨y, hy⟩ => by rw [hq.blockO] at hy; cases hy
          have hnc : ¬ Mine own' 0 cb := fun ⟨y, hy⟩ => by rw [e2] at hy; cases hy
          clear hgo x0' x7' xk' K1 TX P1 P2 e6 hcut ht hq KP HS hmd hMd hwc1 hwc2 hwq d7 dk d2 d0 h6
          generalize c + L + M = N at *
          by_cases hg : (1099511627776 : Int) < N
          · have hgo := unhide HGO
            rw [if_pos hg] at hgo
            have HGO2 := hide hgo
            clear hgo HGO
            go_wp2
            go_ret
            refine ⟨rfl, own', ?_, (unhide HRX).2.1⟩
            rw [← unhide HGO2]
            exact (unhide HRX).1.mono (by omega)
          · have hgo := unhide HGO
            rw [if_neg hg] at hgo
            have HGO2 := hide hgo
            have KC := hide (fun w' (T : Turn nothing X w') => ((unhide HTX).turn T).clock (r := N) (by omega : 0 < k) hkp ⟨unhide HN, by omega⟩)
            have HG := hide hg
            clear hgo HGO hkp
            go_wp2
            have HS : ∀ w', Turn (Mine own' 0) X w' → Turn (Mine own' 0) X w' ∧ w'.cell? ⟨bs, 0, none⟩ = some (.pointer (some ⟨q.bt, 0, none⟩)) ∧ w'.cell? ⟨bs, 7, none⟩ = some (.slice (some ⟨cb, 0, none⟩) len cc0) ∧ w'.cell? ⟨cb, k, none⟩ = some (.int .i64 N) := fun w' T => ⟨T, T.cell x0 (by first | exact hnb | exact hnc), T.cell x7 (by first | exact hnb | exact hnc), T.cell xk (by first | exact hnb | exact hnc)⟩
            go_region_held3 (fun w' => Turn (Mine own' 0) X w' ∧ w'.cell? ⟨bs, 0, none⟩ = some (.pointer (some ⟨q.bt, 0, none⟩)) ∧ w'.cell? ⟨bs, 7, none⟩ = some (.slice (some ⟨cb, 0, none⟩) len cc0) ∧ w'.cell? ⟨cb, k, none⟩ = some (.int .i64 N)) ((go_split_ands; apply HS; all_goals (repeat (first | with_reducible assumption | with_reducible exact Turn.refl _ _ | with_reducible apply Turn.step_alloc | with_reducible apply Turn.step_drew | ((with_reducible refine Turn.step_turn (N := nothing) ?_ (by assumption) ?_); rotate_left; · exact fun _ _ h => False.elim h) | ((with_reducible refine Turn.step_set ?_ ?_); rotate_left; · first | exact Or.inr rfl | exact Or.inr (Or.inl rfl) | exact Or.inl (by simp <;> omega)) | ((with_reducible refine Turn.step_turn ?_ (Turn.grown (by assumption)) ?_); rotate_left; · exact fun _ _ h => Or.inr h) | with_reducible apply There.drew | with_reducible apply There.set | ((with_reducible refine There.turn ?_ (by assumption) ?_); rotate_left; · exact id) | assumption)))) (first | (go_at_call 27; go_split_ands; refine (unhide KC _ (Turn.drew _ _)).mono ?_; rintro e w8 ⟨rfl, own8, T8, S8⟩; have TF : Turn (Mine own' 0) X w8 := (Turn.drew _ _).step_turn S8.turn (fun _ _ h => h)))
            go_split_ands
            have L8 : Leaves own' 0 X.drew q.bt (b + 5 * k + 5) (t'.tick k (max (t'.cac k).clock N)) w8 := ⟨own8, T8, S8⟩
            have lowX : n0 ≤ X.drew.heap.size := (unhide HRX).2.2
            obtain ⟨own9, S9, K9⟩ := ((unhide HRX).1.turn (Turn.drew _ _)).leaves lowX ((unhide HQX).turn (Turn.drew _ _)) L8 rfl
            have HR9 : Hid (PassLoop n0 own own9 w w8 bs (b + 5 * (k + 1)) t (t'.tick k (max (t'.cac k).clock N)) { h with now := h.now + n, clocks := cl.set k N } (k + 1) n more r) := by
              refine ⟨S9.mono (by omega), ((unhide HRX).2.1.trans (KS.of_turn (Turn.drew _ _))).trans K9, Nat.le_trans lowX K9.turn.size, (unhide HR).c, ?_, fun j h1 h2 => ?_, ?_⟩
              · show (cl.set k N).length = _
                rw [List.length_set, kl]; exact unhide HLEN
              · show 0 ≤ (cl.set k N).getD j 0 ∧ (cl.set k N).getD j 0 ≤ _
                have h2 : j < (cl.set k N).length := h2
                rw [List.length_set] at h2
                have : (cl.set k N).getD j 0 = cl.getD j 0 := by rw [List.getD_eq_getElem?_getD, List.getElem?_set, if_neg (by omega), ← List.getD_eq_getElem?_getD]
                rw [this]
                exact (unhide HR).clk j (by omega) h2
              · show passF t.c.drift n more ((cl.set k N).length - (k + 1)) (k + 1) (cl.set k N) _ = r
                rw [List.length_set, kl]; exact unhide HGO2
            clear S8 T8 TF L8 S9 K9 HS lowX KC HGO2 HRX HQX HTX
            go_wp2
            go_roundw
            case rel => exact ⟨k + 1, own9, _, cl.set k N, by omega, by omega, by simp [kl], by go_num, HR9⟩
            case measure => simp [intOf]; omega
    · have e : k = len := by omega
      subst e
      have hgo := (unhide HR).goes
      dsimp only at hgo
      rw [kl, Nat.sub_self] at hgo
      have HGO : Hid ((cl, t') = r) := hgo
      clear hgo ht hq hcv
      go_wp2
      go_ret
      refine ⟨rfl, own', ?_, (unhide HR).ks⟩
      rw [← unhide HGO]
      exact (unhide HR).shop.mono (by omega)

end Go.Proofs.YtpdkojgepagbnaaDoor

namespace Go.Proofs.YtpdkojgepagbnaaDoor
set_option maxRecDepth 100000
open Go.RowKit
open Tier (Mes Ans Conf St Was)
attribute [local go_sem ↓] Go.wp_at_zero Go.wp_at_succ

variable {n0 : Nat} {own own' : Own} {w w' : World} {bs b : Nat} {t t' : St} {h h' : Sh}

theorem infoWas : (Tryd.prog.info? 85).map (fun i => (i.zero, i.size, i.bytes)) = some (some (.agg #[.string ⟨#[]⟩, .int .i64 0, .int .i64 0, .string ⟨#[]⟩, .int .i64 0]), 5, 56) := by kernel_rfl
theorem infoBool : (Tryd.prog.info? 4).map (fun i => (i.zero, i.size, i.bytes)) = some (some (.bool false), 1, 1) := by kernel_rfl

set_option maxHeartbeats 8000000 in
theorem step_write (S : Shop n0 own w bs b t h) (hn : n0 ≤ w.heap.size) (hb : b + 10 ≤ 1000000000000) (o : StepD) (hk : o.kind = 0) (ha : I64 o.a) (hl : h.l.length ≤ 100000000000) (hver : 0 ≤ (lastOf h.l (keyD o.a)).ver ∧ (lastOf h.l (keyD o.a)).ver ≤ 1000000000000) (hfew : t.items.length < 16) :
    Calls Tryd.prog 17 #[.pointer (some ⟨bs, 0, none⟩), stepV o] w fun e w' => e = .returned (.bool true) ∧ Behind n0 own w bs (b + 5) (t.changes ⟨keyD o.a, (t.item (keyD o.a)).ver + 1, 1, cutS o.s⟩) { h with l := h.l ++ [⟨keyD o.a, (lastOf h.l (keyD o.a)).ver + 1, 1, cutS o.s, h.now⟩] } w' := by
  obtain ⟨i0, hi, hz0, hz1, hz2⟩ := info_parts infoWas
  have HS := hide S
  have HB := hide hb
  obtain ⟨q, ht, hq⟩ := S.is
  have HT := hide ht
  have HQ := hide hq
  have HA := hide ha
  have HF := hide hfew
  obtain ⟨kind, a, bb, s⟩ := o
  dsimp only at hk ha hver HA ⊢
  subst hk
  have hkk := keyD_ok a
  have hks := keyB_le hkk
  have hvv := cutS_ok s
  have HKV := hide (And.intro hkk (And.intro hks hvv))
  generalize hgk : keyD a = k at *
  have HGK := hide hgk
  have hwv : IntKind.i64.wrap ((lastOf h.l k).ver + 1) = (lastOf h.l k).ver + 1 := by rw [IntKind.wrap_i64]; omega
  generalize hgl : lastOf h.l k = lw at *
  have HGL := hide hgl
  have HLL := hide hl
  obtain ⟨lkey, lver, lpres, lval, lfrm⟩ := lw
  dsimp only at hwv hver ⊢
  obtain ⟨V0, hV0⟩ : ∃ V0, V0 = cutS s := ⟨_, rfl⟩
  rw [← hV0] at HKV ⊢
  clear S ht hq hb ha hfew hkk hks hvv hgk hgl hl hver
  unfold stepV
  dsimp only
  go_enter Tryd.func17, Tryd.ntmps17
  go_upto_if 23 with fail
  generalize hW : World.alloc _ _ = W0
  have T0 : Turn nothing w W0 := by rw [← hW]; exact Turn.alloc _ _ _
  have x1 : W0.cell? ⟨w.heap.size, 1, none⟩ = some (.int .i64 a) := by rw [← hW]; exact cell_of_cells (new1_0 w _) 1
  clear hW
  go_cut [5] from 15 to 188 (fun v wx => v = .string V0 ∧ wx = W0)
  case first =>
    by_cases hs : 16 < s.size
    · have e : V0 = s.extract 0 16 := by rw [hV0]; unfold cutS; rw [if_pos hs]
      have hs1 : (16 : Int) < (s.size : Int) := by omega
      have hs2 : (16 : Int) ≤ (s.size : Int) := by omega
      clear hV0
      go_wp2
      go_meet
      exact ⟨by rw [e], rfl⟩
    · have e : V0 = s := by rw [hV0]; unfold cutS; rw [if_neg hs]
      have hs1 : (s.size : Int) ≤ 16 := by omega
      clear hV0
      go_wp2
      go_meet
      exact ⟨by rw [e], rfl⟩
  case rest =>
    obtain ⟨rfl, rfl⟩ := hcut
    rename World => V
    clear hV0
    go_wp2_with fail
    refine (keyOf_any a V (unhide HA)).mono ?_
    rintro e w1 ⟨rfl, T1⟩
    rw [unhide HGK]
    have T01 := T0.step_turn T1 (fun _ _ h => h)
    go_wp2_with fail
    refine (last_any ((unhide HQ).turn T01) (Nat.le_trans (unhide HLL) (by decide)) k (by have := (unhide HKV).2.1; omega)).mono ?_
    rintro e w2 ⟨rfl, T2⟩
    rw [unhide HGL]
    have T02 := T01.step_turn T2 (fun _ _ h => h)
    unfold wasV wasL
    dsimp only
    go_wp2
    generalize hX : World.alloc _ _ = X
    have TX : Turn nothing w2 X := by rw [← hX]; exact Turn.alloc _ _ _
    have hsz : X.heap.size = w2.heap.size + 1 := by rw [← hX]; simp
    have y1 : X.cell? ⟨w2.heap.size, 1, none⟩ = some (.int .i64 lver) := by rw [← hX]; exact cell_of_cells (new1_0 w2 _) 1
    have TW := T02.step_turn TX (fun _ _ h => h)
    have HQX := hide ((unhide HQ).turn TW)
    have HTX := hide ((unhide HT).turn TW)
    have HTW := hide TW
    have HTW2 := hide T02
    clear hX T0 T1 T2 T01 T02 TX TW x1
    have hbsX : bs < X.heap.size := (unhide HQX).lt
    have c8 : X.cell? ⟨bs, 8, none⟩ = some q.lv := cell_of_cells (unhide HQX).block 8
    have f8 : X.frozen? ⟨bs, 8, none⟩ = false := frozen_of_cells (unhide HQX).block 8
    have c6 : X.cell? ⟨bs, 6, none⟩ = some (.int .i64 h.now) := cell_of_cells (unhide HQX).block 6
    have c8a : ∀ o, (X.alloc o).cell? ⟨bs, 8, none⟩ = some q.lv := fun o => (Turn.alloc nothing X o).cell c8 id
    have hN := hide (unhide HQX).hist.row
    have hwz : w.heap.size ≤ w2.heap.size := (unhide HTW2).size
    have hNb : Hid (∀ k', some k' = q.lv.ownBlock → k' < X.heap.size ∧ k' ≠ bs ∧ k' ≠ w2.heap.size) := fun k' hk' => ⟨(unhide HQX).hist.lt hk'.symm, fun e => (by have := (unhide HQX).hist.mine k' hk'.symm; rw [e, (unhide HQX).blockO] at this; cases this), fun e => by have := (unhide HQX).hist.mine k' hk'.symm; rw [e, (unhide HT).top _ hwz] at this; cases this⟩
    have hne2 : ¬ (w2.heap.size = bs ∨ some w2.heap.size = q.lv.ownBlock) := fun e => e.elim (fun e => by have := (unhide HQ).lt; omega) (fun e => (unhide hNb _ e).2.2 rfl)
    have hm0 : (h.l.map wasL).length ≤ 100000000000 := by rw [List.length_map]; exact unhide HLL
    obtain ⟨LW, hLW⟩ : ∃ LW : Was, LW = ⟨k, lver + 1, 1, V0, h.now⟩ := ⟨_, rfl⟩
    generalize hxs : (h.l.map wasL).flatten = xs at *
    generalize hmm : (h.l.map wasL).length = m at *
    have hm1 : m + 1 ≤ maxLen := by unfold maxLen; omega
    have hm2 : (m + 1) * 56 ≤ 140737488355328 := by omega
    have HSx : ∀ w', Turn1 (fun k' => k' = bs ∨ some k' = q.lv.ownBlock) bs 8 X w' → Turn1 (fun k' => k' = bs ∨ some k' = q.lv.ownBlock) bs 8 X w' ∧ w'.cell? ⟨bs, 6, none⟩ = some (.int .i64 h.now) ∧ w'.cell? ⟨w2.heap.size, 1, none⟩ = some (.int .i64 lver) := fun w' T => ⟨T, T.cell c6 (by decide), T.turn.cell y1 hne2⟩
    go_cut [] from 15 to 188 (fun wx => Hid (∃ own1 q1, ShopIs own1 wx bs q1 t.c { h with l := h.l ++ [LW] } ∧ Step 1 own own1 X wx ∧ (∀ k', wx.heap.size ≤ k' → own1 k' = none) ∧ q1.bt = q.bt))
    case first =>
      refine wp_region_noPanic ?_
      refine wp_region_held_drew (S := fun w' => Turn1 (fun k' => k' = bs ∨ some k' = q.lv.ownBlock) bs 8 X w' ∧ w'.cell? ⟨bs, 6, none⟩ = some (.int .i64 h.now) ∧ w'.cell? ⟨w2.heap.size, 1, none⟩ = some (.int .i64 lver)) (by kernel_rfl) (HSx _ (Turn1.refl hbsX).step_drew) (fun hHeld => ?_)
      refine wpAnyH_take (i := 0) (v := ?_) rfl (by kernel_rfl) (by kernel_rfl) (by kernel_rfl) (fun _ _ _ h => h) (Or.inl ⟨by rfl, ?hy⟩) (by assumption) ?_
      case hy => intro w hSw; (try dsimp only at hSw); go_simp; (try with_reducible rfl)
      (try go_frame)
      refine wpAnyH_take (i := 1) (v := ?_) rfl (by kernel_rfl) (by kernel_rfl) (by kernel_rfl) (fun _ _ _ h => h) (Or.inl ⟨by rfl, ?hy⟩) (by assumption) ?_
      case hy => intro w hSw; (try dsimp only at hSw); go_simp; (try with_reducible rfl)
      (try go_frame)
      refine wpAnyH_take (i := 2) (v := ?_) rfl (by kernel_rfl) (by kernel_rfl) (by kernel_rfl) (fun _ _ _ h => h) (Or.inl ⟨by rfl, ?hy⟩) (by assumption) ?_
      case hy => intro w hSw; (try dsimp only at hSw); go_simp; (try with_reducible rfl)
      (try go_frame)
      refine wpAnyH_take (i := 3) (v := ?_) rfl (by kernel_rfl) (by kernel_rfl) (by kernel_rfl) (fun _ _ _ h => h) (Or.inl ⟨by rfl, ?hy⟩) (by assumption) ?_
      case hy => intro w hSw; (try dsimp only at hSw); go_simp; (try with_reducible rfl)
      (try go_frame)
      refine wpAnyH_take (i := 5) (v := ?_) rfl (by kernel_rfl) (by kernel_rfl) (by kernel_rfl) (fun _ _ _ h => h) (Or.inl ⟨by rfl, ?hy⟩) (by assumption) ?_
      case hy => intro w hSw; (try dsimp only at hSw); go_simp; (try with_reducible rfl)
      (try go_frame)
      refine wpAnyH_take (i := 6) (v := ?_) rfl (by kernel_rfl) (by kernel_rfl) (by kernel_rfl) (fun _ _ _ h => h) (Or.inl ⟨by rfl, ?hy⟩) (by assumption) ?_
      case hy => intro w hSw; (try dsimp only at hSw); go_simp; (try with_reducible rfl)
      (try go_frame)
      refine wpAnyH_take (i := 7) (v := ?_) rfl (by kernel_rfl) (by kernel_rfl) (by kernel_rfl) (fun _ _ _ h => h) (Or.inl ⟨by rfl, ?hy⟩) (by assumption) ?_
      case hy => intro w hSw; (try dsimp only at hSw); go_simp; (try with_reducible rfl)
      (try go_frame)
      refine wpAnyH_take (i := 8) (v := ?_) rfl (by kernel_rfl) (by kernel_rfl) (by kernel_rfl) (fun _ _ _ h => h) (Or.inl ⟨by rfl, ?hy⟩) (by assumption) ?_
      case hy => intro w hSw; (try dsimp only at hSw); go_simp; (try with_reducible rfl)
      (try go_frame)
      refine wpAnyH_take (i := 9) (v := ?_) rfl (by kernel_rfl) (by kernel_rfl) (by kernel_rfl) (fun _ _ _ h => h) (Or.inl ⟨by rfl, ?hy⟩) (by assumption) ?_
      case hy => intro w hSw; (try dsimp only at hSw); go_simp; (try with_reducible rfl)
      (try go_frame)
      refine wpAnyH_take (i := 10) (v := ?_) rfl (by kernel_rfl) (by kernel_rfl) (by kernel_rfl) (fun _ _ _ h => h) (Or.inl ⟨by rfl, ?hy⟩) (by assumption) ?_
      case hy => intro w hSw; (try dsimp only at hSw); go_simp; (try with_reducible rfl)
      (try go_frame)
      refine wpAnyH_take (i := 11) (v := ?_) rfl (by kernel_rfl) (by kernel_rfl) (by kernel_rfl) (fun _ _ _ h => h) (Or.inl ⟨by rfl, ?hy⟩) (by assumption) ?_
      case hy => intro w hSw; (try dsimp only at hSw); go_simp; (try with_reducible rfl)
      (try go_frame)
      refine wpAnyH_take (i := 12) (v := ?_) rfl (by kernel_rfl) (by kernel_rfl) (by kernel_rfl) (fun _ _ _ h => h) (Or.inl ⟨by rfl, ?hy⟩) (by assumption) ?_
      case hy => intro w hSw; (try dsimp only at hSw); go_simp; (try with_reducible rfl)
      (try go_frame)
      refine wpAnyH_take (i := 13) (v := ?_) rfl (by kernel_rfl) (by kernel_rfl) (by kernel_rfl) (fun _ _ _ h => h) (Or.inl ⟨by rfl, ?hy⟩) (by assumption) ?_
      case hy => intro w hSw; (try dsimp only at hSw); go_simp; (try with_reducible rfl)
      (try go_frame)
      refine wpAnyH_take (i := 14) (v := ?_) rfl (by kernel_rfl) (by kernel_rfl) (by kernel_rfl) (fun _ _ _ h => h) (Or.inl ⟨by rfl, ?hy⟩) (by assumption) ?_
      case hy => intro w hSw; (try dsimp only at hSw); go_simp; (try with_reducible rfl)
      (try go_frame)
      refine wpAnyH_ready (rs := [4, 15]) (by kernel_rfl) (by simp) ?_
      refine AllReadyH.cons rfl (fun K hK => ?_) (AllReadyH.cons rfl (fun K hK => ?_) AllReadyH.nil)
      · go_simp
        refine hK.out _ _ (HSx _ (Turn1.refl hbsX).step_drew) (fun hHeld => ?_)
        clear hK K
        refine wpAnyH_ready (rs := [15]) (by kernel_rfl) (by simp) ?_
        refine AllReadyH.cons rfl (fun K hK => ?_) AllReadyH.nil
        go_simp
        refine hK.out _ _ (HSx _ (Turn1.refl hbsX).step_alloc.step_drew) (fun hHeld => ?_)
        clear hK K
        refine wpAnyH_ready (rs := [16]) (by kernel_rfl) (by simp) ?_
        refine AllReadyH.cons rfl (fun K hK => ?_) AllReadyH.nil
        refine step_append_lies _ (by rfl) _ _ _ (by rfl) 0 85 i0 _ 5 56 Tryd.underlying49 hi hz0 hz1 hz2 rfl (by omega) q.lv m xs (by rfl) ((unhide hN).alloc _).drew ⟨w2.heap.size + 1, 0, none⟩ 1 1 [.string k, .int .i64 (lver + 1), .int .i64 1, .string V0, .int .i64 h.now] (by rfl) (by rfl) (World.news_of_block (cs := #[.string k, .int .i64 (lver + 1), .int .i64 1, .string V0, .int .i64 h.now]) (t := 85) (fr := (0, 0)) (hsz ▸ heap_alloc_new X _)) (by simp [Value.oneCell']) (by omega) hm1 hm2 (by simp) (w2.heap.size + 1 + 1) (by simp [hsz]) ?_
        intro gb cap w5 hown1 hgrow hat hlt
        have q8 := far_cell hgrow c8 (fun e => (unhide hNb _ e).2.1 rfl)
        have q8f := far_froz hgrow c8 f8 (fun e => (unhide hNb _ e).2.1 rfl)
        have TG : Turn1 (fun k' => k' = bs ∨ some k' = q.lv.ownBlock) bs 8 X w5 := (Turn1.refl hbsX).step_alloc.step_drew.step_turn (Turn.grown hgrow) (fun _ _ h => Or.inr h) (fun e => (unhide hNb _ e).2.1 rfl)
        refine hK.out _ _ (HSx _ TG) (fun hHeld => ?_)
        clear hK K
        refine wpAnyH_take (i := 17) (v := ?_) rfl (by kernel_rfl) (by kernel_rfl) (by kernel_rfl) (fun _ _ _ h => h) (Or.inl ⟨by rfl, ?hy⟩) (by assumption) ?_
        case hy => intro w hSw; (try dsimp only at hSw); go_simp; (try with_reducible rfl)
        (try go_frame)
        refine wpAnyH_take (i := 18) (v := ?_) rfl (by kernel_rfl) (by kernel_rfl) (by kernel_rfl) (fun _ _ _ h => h) (Or.inl ⟨by rfl, ?hy⟩) (by assumption) ?_
        case hy => intro w hSw; (try dsimp only at hSw); go_simp; (try with_reducible rfl)
        (try go_frame)
        refine wpAnyH_ready (rs := [19]) (by kernel_rfl) (by simp) ?_
        refine AllReadyH.cons rfl (fun K hK => ?_) AllReadyH.nil
        go_simp
        refine hK.out _ _ (HSx _ (TG.step_set (Or.inl rfl))) (fun hHeld => ?_)
        clear hK K
        refine wpAnyH_done (by kernel_rfl) ?_ _
        refine NoPanic.normal ?_
        go_wp2
        go_meet
        subst hmm
        subst hxs
        subst hLW
        obtain ⟨L, S, TP⟩ := ((unhide HQX).turn ((Turn.alloc nothing X _).step_drew)).logged (r := ⟨k, lver + 1, 1, V0, h.now⟩) (fun k' hk' => (unhide HTX).top k' (Nat.le_trans (Turn.alloc nothing X _).step_drew.size hk')) hown1 hgrow (hat.imp id (fun e => by rw [e]; simp [hsz])) hlt
        exact ⟨_, _, L, (Step.of_turn ((Turn.alloc nothing X _).step_drew)).trans S, TP, rfl⟩
      · go_simp
        refine hK.out _ _ (HSx _ (Turn1.refl hbsX).step_alloc.step_drew) (fun hHeld => ?_)
        clear hK K
        refine wpAnyH_ready (rs := [4]) (by kernel_rfl) (by simp) ?_
        refine AllReadyH.cons rfl (fun K hK => ?_) AllReadyH.nil
        go_simp
        refine hK.out _ _ (HSx _ (Turn1.refl hbsX).step_alloc.step_drew) (fun hHeld => ?_)
        clear hK K
        refine wpAnyH_ready (rs := [16]) (by kernel_rfl) (by simp) ?_
        refine AllReadyH.cons rfl (fun K hK => ?_) AllReadyH.nil
        refine step_append_lies _ (by rfl) _ _ _ (by rfl) 0 85 i0 _ 5 56 Tryd.underlying49 hi hz0 hz1 hz2 rfl (by omega) q.lv m xs (by rfl) ((unhide hN).alloc _).drew ⟨w2.heap.size + 1, 0, none⟩ 1 1 [.string k, .int .i64 (lver + 1), .int .i64 1, .string V0, .int .i64 h.now] (by rfl) (by rfl) (World.news_of_block (cs := #[.string k, .int .i64 (lver + 1), .int .i64 1, .string V0, .int .i64 h.now]) (t := 85) (fr := (0, 0)) (hsz ▸ heap_alloc_new X _)) (by simp [Value.oneCell']) (by omega) hm1 hm2 (by simp) (w2.heap.size + 1 + 1) (by simp [hsz]) ?_
        intro gb cap w5 hown1 hgrow hat hlt
        have q8 := far_cell hgrow c8 (fun e => (unhide hNb _ e).2.1 rfl)
        have q8f := far_froz hgrow c8 f8 (fun e => (unhide hNb _ e).2.1 rfl)
        have TG : Turn1 (fun k' => k' = bs ∨ some k' = q.lv.ownBlock) bs 8 X w5 := (Turn1.refl hbsX).step_alloc.step_drew.step_turn (Turn.grown hgrow) (fun _ _ h => Or.inr h) (fun e => (unhide hNb _ e).2.1 rfl)
        refine hK.out _ _ (HSx _ TG) (fun hHeld => ?_)
        clear hK K
        refine wpAnyH_take (i := 17) (v := ?_) rfl (by kernel_rfl) (by kernel_rfl) (by kernel_rfl) (fun _ _ _ h => h) (Or.inl ⟨by rfl, ?hy⟩) (by assumption) ?_
        case hy => intro w hSw; (try dsimp only at hSw); go_simp; (try with_reducible rfl)
        (try go_frame)
        refine wpAnyH_take (i := 18) (v := ?_) rfl (by kernel_rfl) (by kernel_rfl) (by kernel_rfl) (fun _ _ _ h => h) (Or.inl ⟨by rfl, ?hy⟩) (by assumption) ?_
        case hy => intro w hSw; (try dsimp only at hSw); go_simp; (try with_reducible rfl)
        (try go_frame)
        refine wpAnyH_ready (rs := [19]) (by kernel_rfl) (by simp) ?_
        refine AllReadyH.cons rfl (fun K hK => ?_) AllReadyH.nil
        go_simp
        refine hK.out _ _ (HSx _ (TG.step_set (Or.inl rfl))) (fun hHeld => ?_)
        clear hK K
        refine wpAnyH_done (by kernel_rfl) ?_ _
        refine NoPanic.normal ?_
        go_wp2
        go_meet
        subst hmm
        subst hxs
        subst hLW
        obtain ⟨L, S, TP⟩ := ((unhide HQX).turn ((Turn.alloc nothing X _).step_drew)).logged (r := ⟨k, lver + 1, 1, V0, h.now⟩) (fun k' hk' => (unhide HTX).top k' (Nat.le_trans (Turn.alloc nothing X _).step_drew.size hk')) hown1 hgrow (hat.imp id (fun e => by rw [e]; simp [hsz])) hlt
        exact ⟨_, _, L, (Step.of_turn ((Turn.alloc nothing X _).step_drew)).trans S, TP, rfl⟩
    case rest =>
      rename World => Y
      obtain ⟨own1, q1, Q1, S1, top1, e1⟩ := unhide hcut
      have z0 : Y.cell? ⟨bs, 0, none⟩ = some (.pointer (some ⟨q.bt, 0, none⟩)) := by rw [← e1]; exact cell_of_cells Q1.block 0
      have HTY := hide ((unhide HTX).step1 S1 top1)
      have K1 := KS.of_step S1
      have KY := (KS.of_turn (unhide HTW)).trans K1
      have HSY := hide ((unhide HS).next (b' := b) KY ⟨q1, by rw [e1]; exact unhide HTY, Q1⟩ hn)
      have HQ1 := hide Q1
      have HKY := hide KY
      have lowY : n0 ≤ Y.heap.size := Nat.le_trans hn KY.turn.size
      have KW := hide ((unhide HTY).write (unhide HSY).keys (unhide HB) (unhide HKV).1 (unhide HKV).2.2 (fun _ => unhide HF))
      clear Q1 S1 top1 K1 KY hcut
      subst hLW
      go_wp2_with fail
      refine (unhide KW).mono ?_
      rintro e w8 ⟨rfl, L8⟩
      rw [← e1] at L8
      obtain ⟨own9, S9, K9⟩ := (unhide HSY).leaves lowY (unhide HQ1) L8 rfl
      have HE := hide (And.intro S9 ((unhide HKY).trans K9))
      clear L8 S9 K9
      go_wp2
      go_ret
      exact ⟨rfl, own9, (unhide HE).1, (unhide HE).2⟩

end Go.Proofs.YtpdkojgepagbnaaDoor
