/-
  A budgeted run.
  A play in which each question is settled ahead of the next call and no time goes by, as plain data.
  A calm run.
  A calm run, from its arguments.
-/
import Derived.Test.YtpdkojgepagbnaaDoorJ31
import Derived.Test.YtpdkojgepagbnaaDoorJ33
import Derived.Test.YtpdkojgepagbnaaDoorJ26
import Derived.Test.YtpdkojgepagbnaaDoorJ21
import Derived.Test.YtpdkojgepagbnaaDoorJ28
namespace Go.Proofs.YtpdkojgepagbnaaDoor
set_option maxRecDepth 100000
open Go.RowKit
open Tier (Mes Ans Conf St Was)
attribute [local go_sem ↓] Go.wp_at_zero Go.wp_at_succ

variable {n0 : Nat} {own own' : Own} {w w' : World} {bs b : Nat} {t t' : St} {h h' : Sh}

theorem ScriptAt.ks {a : Option Addr} {l : List StepD} (hs : ScriptAt w a l) (K : KS own own' w w') (hm : ∀ ad, a = some ad → own ad.block = none) : ScriptAt w' a l :=
  hs.turn K.turn (fun ad e h => h (hm ad e))

theorem Shop.fewOf (S : Shop n0 own w bs b t h) (h4 : ∀ x ∈ t.items, ∃ j, j < 4 ∧ x.key = keyI j) : t.items.length < 16 := by
  obtain ⟨q, ht, _⟩ := S.is
  have := ht.few h4
  omega
theorem Shop.clkOf (S : Shop n0 own w bs b t h) {n : Nat} (hn : n < t.c.parents.length) : 0 ≤ (t.cac n).clock ∧ (t.cac n).clock ≤ 1099511627776 := by
  obtain ⟨q, ht, _⟩ := S.is
  exact ht.clk hn

theorem passF_length (drift n b : Int) : ∀ (f k : Nat) (cl : List Int) (t : St), (passF drift n b f k cl t).1.length = cl.length
  | 0, _, _, _ => rfl
  | f + 1, k, cl, t => by
    unfold passF
    split
    · simp
    · rw [passF_length drift n b f]
      simp
theorem clocks_length (o : StepD) (h : Sh) (t : St) : (stepF o h t).1.clocks.length = h.clocks.length := by
  by_cases k2 : o.kind = 2
  · unfold stepF
    rw [if_neg (by omega), if_neg (by omega), if_pos k2]
    exact passF_length ..
  · rw [clocks_step k2]

/-- A play with time in it, ahead of step i. -/
structure Play (script : List StepD) (c : Conf) (i : Nat) (h : Sh) (t : St) : Prop where
  kin : Kin True script i h t
  siz : Siz i h
  ag : Agree h t
  c : t.c = c

theorem Play.ok {script : List StepD} {c : Conf} {i : Nat} (p : Play script c i h t) (S : Shop n0 own w bs b t h) (hi : i ≤ 10000000000) {o : StepD} (ha : I64 o.a) (hb : I64 o.b) : StepOK o h t where
  a := ha
  b := hb
  siz := ⟨i, p.siz, hi⟩
  few := S.fewOf p.kin.mid.four
  pres := (p.kin.mid.last _).2
  clk := fun j hj => by
    by_cases e : j = 0
    · rw [e, p.ag.zero]; decide
    · have hl := p.ag.len
      rw [p.ag.is j (by omega) (by omega)]
      exact S.clkOf (by omega)
  len := p.ag.len

theorem Play.step {script : List StepD} {c : Conf} {i : Nat} (p : Play script c i h t) (hc : ConfOK c) {o : StepD} (ho : script[i]? = some o) (hov : overB (stepF o h t).1 = false) :
    AnsAll script c.budget ((stepF o h t).1.now - c.budget) (stepF o h t).1 (stepF o h t).2.answers ∧ Siz (i + 1) (stepF o h t).1 ∧ (stepF o h t).2.c = c ∧
    Play script c (i + 1) { (stepF o h t).1 with opn := shut (stepF o h t).1.opn (stepF o h t).2.answers } { (stepF o h t).2 with answers := [] } := by
  have hcc : (stepF o h t).2.c = c := by rw [c_step, p.c]
  have hm : Mid True script (i + 1) (stepF o h t).1 (stepF o h t).2 ∧ Agree (stepF o h t).1 (stepF o h t).2 := by
    by_cases k2 : o.kind = 2
    · exact p.kin.pass p.ag (by rw [p.c]; exact hc.drift) ho k2 (by rw [p.c]; exact hc.len.1) hov
    · exact ⟨p.kin.step ho k2 (by rw [p.c]; exact hc.len.1), p.ag.step k2⟩
  have ha := hm.1.answersTimed
  exact ⟨by rw [← hcc]; exact ha.1, p.siz.step o t, hcc, ⟨ha.2, (p.siz.step o t).shut _, ⟨hm.2.len, hm.2.is, hm.2.zero⟩, hcc⟩⟩

theorem Play.start (script : List StepD) {c : Conf} (hc : ConfOK c) : Play script c 0 (sh0 c) (Tier.new c) := by
  refine ⟨Kin.start True script hc, ⟨Nat.le_refl _, Nat.le_refl _, ⟨Int.le_refl _, by show (0 : Int) ≤ _; omega⟩, by intro r hr; cases hr⟩, ⟨by show (List.replicate _ _).length = _; rw [List.length_replicate]; rfl, fun k h0 h1 => ?_, ?_⟩, rfl⟩
  · have h1 : k < c.parents.length := h1
    show (List.replicate c.parents.length (0 : Int)).getD k 0 = ((List.replicate c.parents.length Tier.noCac).getD k Tier.noCac).clock
    rw [List.getD_eq_getElem?_getD, List.getD_eq_getElem?_getD, List.getElem?_replicate, List.getElem?_replicate, if_pos h1, if_pos h1]; rfl
  · show (List.replicate c.parents.length (0 : Int)).getD 0 0 = 0
    rw [List.getD_eq_getElem?_getD, List.getElem?_replicate]
    split <;> rfl

/-- What holds around a budgeted run's loop. -/
structure BLoop (n0 : Nat) (own0 : Own) (w0 wr : World) (bs : Nat) (script : List StepD) (c : Conf) (a : Option Addr) (j : Nat) : Prop where
  is : ∃ own t h, Shop n0 own wr bs (500000 * j) t h ∧ KS own0 own w0 wr ∧ Play script c j h t
  scr : ScriptAt wr a script
  size : n0 ≤ wr.heap.size

set_option maxHeartbeats 8000000 in
theorem budgeted_of (a : Option Addr) (cap : Nat) (zs : List Int) (dr bu en wa : Int) (sa : Option Addr) (scap : Nat) (script : List StepD) (n0 : Nat) (w : World) (hK : KeyTab w) (hn : n0 ≤ w.heap.size) (hs : SliceAt w a zs)
    (hsc : ScriptAt w sa script) (hsl : script.length ≤ 1048576) (hsn : 0 < script.length → ∀ ad, sa = some ad → ad.block < n0)
    (KO : ∀ w1, KeyTab w1 → n0 ≤ w1.heap.size → SliceAt w1 a zs → Calls Tryd.prog 16 #[.agg #[.slice a zs.length cap, .int .i64 dr, .int .i64 bu, .int .i64 en, .int .i64 wa]] w1 fun r w' => ∃ bs own', r = .returned (.pointer (some ⟨bs, 0, none⟩)) ∧ Shop n0 own' w' bs 0 (Tier.new (confD zs dr bu en wa)) (sh0 (confD zs dr bu en wa)) ∧ Turn nothing w1 w') :
    Calls Tryd.prog 7 #[.agg #[.slice a zs.length cap, .int .i64 dr, .int .i64 bu, .int .i64 en, .int .i64 wa], .slice sa script.length scap] w fun r w' => r = .returned (.bool true) ∧ Turn (fun k => n0 ≤ k) w w' := by
  have HOK : Hid (ConfOK (confD zs dr bu en wa)) := confB_parts (confD_right zs dr bu en wa)
  generalize confD zs dr bu en wa = c at *
  have KO := hide KO
  have HK := hide hK
  have HSL := hide hs
  have HSC := hide hsc
  have HSN := hide hsn
  have HLEN := hide hsl
  generalize hN : script.length = N at *
  clear hK hs hsc hsn
  go_enter Tryd.func7, Tryd.ntmps7
  go_wp2_with fail
  generalize hW : World.alloc _ _ = W0
  have T0 : Turn nothing w W0 := by rw [← hW]; exact Turn.alloc _ _ _
  clear hW
  refine (unhide KO W0 ((unhide HK).turn T0) (Nat.le_trans hn T0.size) (fun hp => by
    obtain ⟨b, off, e, hr⟩ := unhide HSL hp
    exact ⟨b, off, e, fun j hj => T0.cell (hr j hj) id⟩)).mono ?_
  rintro e w1 ⟨bs, own1, rfl, S1, T1⟩
  have HR0 : Hid (BLoop n0 own1 w1 w1 bs script c sa 0) :=
    ⟨⟨own1, _, _, S1, KS.refl _ _, Play.start script (unhide HOK)⟩, ((unhide HSC).turn T0 (fun _ _ h => h)).turn T1 (fun _ _ h => h), Nat.le_trans hn (Nat.le_trans T0.size T1.size)⟩
  have HFR : Hid (∀ own2 w2, KS own1 own2 w1 w2 → Turn (fun k => n0 ≤ k) w w2) := fun _ _ K =>
    ((T0.step_turn T1 (fun _ _ h => h)).mono (fun _ _ h => h.elim)).step_turn K.turn (fun k _ h => S1.fresh k h)
  clear S1 T1 T0 KO HK HSL HSC hn
  go_wp2
  go_loopw [6, 7, 8, 9] (fun i _ _ _ wr => ∃ j : Nat, j ≤ N ∧ i = .int .i64 (j : Int) ∧ Hid (BLoop n0 own1 w1 wr bs script c sa j)) (fun i _ _ _ _ => N - (intOf i).toNat)
  case atStart => exact ⟨0, Nat.zero_le _, rfl, HR0⟩
  case round =>
    clear HR0
    obtain ⟨j, jn, rfl, HR⟩ := hrel
    have hjw : IntKind.i64.wrap ((j : Int) + 1) = (j : Int) + 1 := by rw [IntKind.wrap_i64]; have := unhide HLEN; omega
    by_cases hlt : j < N
    · obtain ⟨o, ho⟩ : ∃ o, script[j]? = some o := ⟨_, List.getElem?_eq_getElem (by omega)⟩
      obtain ⟨sb, off, rfl, c0, c1, c2, c3⟩ := (unhide HR).scr.at_ j o ho
      obtain ⟨ha, hb, _, _⟩ := (unhide HR).scr.ok o (List.mem_of_getElem? ho)
      obtain ⟨own2, t, h, S, K, P⟩ := (unhide HR).is
      have hsz := (unhide HR).size
      have KST := hide (step_any S hsz (by have := unhide HLEN; omega) o (P.ok S (by have := unhide HLEN; omega) ha hb))
      have HP := hide P
      have HKS := hide K
      have HSZ := hide hsz
      have HSR := hide (unhide HR).scr
      have hfree : Hid (own2 sb = none) := S.free (unhide HSN (by omega) _ rfl)
      have i0 : (0 : Int) ≤ (j : Int) := by omega
      have i1 : (j : Int) < (N : Int) := by omega
      unfold stepV at KST
      clear HR S K P hsz ha hb
      go_wp2_with fail
      refine (unhide KST).mono ?_
      rintro e w2 ⟨rfl, own3, S3, K3⟩
      have HS3 := hide S3
      have HK3 := hide K3
      have KOV := hide (show Calls Tryd.prog 25 #[.pointer (some ⟨bs, 0, none⟩)] w2 _ from by
        obtain ⟨q, _, hq⟩ := S3.is
        exact over_any hq (by
          have h0 := (unhide HP).ag.len
          rw [(unhide HP).c] at h0
          have h1 := (unhide HOK).len
          rw [clocks_length]
          omega))
      clear S3 K3 KST c0 c1 c2 c3
      go_wp2_with fail
      refine (unhide KOV).mono ?_
      rintro e w3 ⟨rfl, rfl⟩
      clear KOV
      by_cases hov : overB (stepF o h t).1 = true
      · rw [hov]
        go_wp2
        go_ret
        exact ⟨rfl, unhide HFR _ _ ((unhide HKS).trans (unhide HK3))⟩
      · have hov : overB (stepF o h t).1 = false := by simpa using hov
        rw [hov]
        have hst := hide ((unhide HP).step (unhide HOK) ho hov)
        have HSR3 : Hid (ScriptAt w3 (some ⟨sb, off, none⟩) script) := (unhide HSR).ks (unhide HK3) (fun ad e => by cases e; exact unhide hfree)
        have hsz3 : Hid (n0 ≤ w3.heap.size) := Nat.le_trans (unhide HSZ) (unhide HK3).turn.size
        have KAN := hide (answers_timed (unhide HS3) (unhide hsz3) (by have := unhide HLEN; omega) (some ⟨sb, off, none⟩) scap script (unhide HSR3) (by have := unhide HLEN; omega) (fun _ => unhide HSN (by omega)) (by have := (unhide hst).2.1.l; have := unhide HLEN; omega) (by have := (unhide hst).2.1.now; have := unhide HLEN; omega)
          (by rw [(unhide hst).2.2.1]; exact ⟨by have := (unhide HOK).budget; omega, by have := (unhide HOK).budget; omega⟩) (by rw [(unhide hst).2.2.1]; exact (unhide hst).1))
        rw [hN] at KAN
        clear HSR
        go_wp2_with fail
        refine (unhide KAN).mono ?_
        rintro e w4 ⟨rfl, own4, S4, K4⟩
        have HR' : Hid (BLoop n0 own1 w1 w4 bs script c (some ⟨sb, off, none⟩) (j + 1)) :=
          ⟨⟨own4, _, _, S4.mono (by omega), ((unhide HKS).trans (unhide HK3)).trans K4, (unhide hst).2.2.2⟩, (unhide HSR3).ks K4 (fun ad e => (unhide HS3).free (unhide HSN (by omega) ad e)), Nat.le_trans (unhide hsz3) K4.turn.size⟩
        clear S4 K4 KAN hst HS3 HK3 HKS HP hov HSR3 hsz3
        go_wp2
        go_roundw
        case rel => exact ⟨j + 1, by omega, by go_num, HR'⟩
        case measure => simp [intOf]; omega
    · obtain ⟨own2, t, h, S, K, P⟩ := (unhide HR).is
      have HE := hide (unhide HFR _ _ K)
      clear HR S K P
      go_wp2
      go_ret
      exact ⟨rfl, unhide HE⟩

end Go.Proofs.YtpdkojgepagbnaaDoor

namespace Go.Proofs.YtpdkojgepagbnaaDoor
open Tier (Mes Ans Conf St Kept Wtr Ftc Cac Was Calmly)

variable {script : List StepD} {c : Conf} {i : Nat} {h : Sh} {t : St} {tm : Prop}

theorem settle_nil : ∀ (j : Nat) {t : St}, t.net = [] → Tier.St.settle j t = t
  | 0, _, _ => rfl
  | j + 1, t, h => by
    have : t.first = t := by unfold Tier.St.first; rw [h]
    show Tier.St.settle j t.first = t
    rw [this]
    exact settle_nil j h

theorem settleF_of : ∀ (j J : Nat) (t : St), j < J → (Tier.St.settle j t).net = [] → settleF J t = (Tier.St.settle j t, false) := by
  intro j
  induction j with
  | zero =>
    intro J t hj hn
    obtain ⟨J, rfl⟩ : ∃ k, J = k + 1 := ⟨J - 1, by omega⟩
    have hn : t.net = [] := hn
    unfold settleF
    rw [hn]
    rfl
  | succ j ih =>
    intro J t hj hn
    obtain ⟨J, rfl⟩ : ∃ k, J = k + 1 := ⟨J - 1, by omega⟩
    unfold settleF
    cases hnet : t.net with
    | nil => rw [settle_nil (j + 1) hnet]
    | cons m r =>
      have e : (t.taken 0).comes m = t.first := by
        unfold Tier.St.first Tier.St.taken
        rw [hnet]
        rfl
      show settleF J ((t.taken 0).comes m) = (Tier.St.settle j t.first, false)
      rw [e]
      exact ih J t.first (by omega) hn

/-- What has been answered is taken away, and who asked is not shut. -/
theorem Mid.told (m : Mid tm script i h t) : Kin tm script i h { t with answers := [] } := by
  obtain ⟨g, I, H, a, b, c, d⟩ := m.inv
  refine ⟨⟨⟨g, Tier.inv_told I, H, a, b, c, d⟩, Tier.neat_of m.neat rfl rfl, fun id => ?_, m.last, m.ids, m.now, m.budget, m.waits, m.four⟩, rfl⟩
  have h2 : Tier.cc id t.caches + Tier.ca id t.answers ≤ _ := m.cnt id
  exact Nat.le_trans (show Tier.cc id t.caches + 0 ≤ Tier.cc id t.caches + Tier.ca id t.answers by omega) h2

theorem calm_changes (hc : Calmly t) (x : Tier.Item) (hx : 0 ≤ x.ver) : Calmly (t.changes x) :=
  ⟨hc.net, hc.clock, hc.ents, fun k => by
    by_cases e : x.key = k
    · rw [← e, Tier.item_changes_same]; exact hx
    · rw [Tier.item_changes_other t x k e]; exact hc.items k, hc.size, hc.drift, hc.budget, hc.entries, hc.waiters, hc.up⟩
theorem calm_told (hc : Calmly t) (l : List Ans) : Calmly { t with answers := l } := ⟨hc.net, hc.clock, hc.ents, hc.items, hc.size, hc.drift, hc.budget, hc.entries, hc.waiters, hc.up⟩

theorem new_cac (c : Conf) (n : Nat) : (Tier.new c).cac n = Tier.noCac := by
  unfold Tier.St.cac Tier.new
  dsimp only
  by_cases hn : n < c.parents.length
  · rw [List.getD_eq_getElem?_getD, List.getElem?_replicate, if_pos hn]; rfl
  · rw [List.getD_eq_getElem?_getD, List.getElem?_replicate, if_neg hn]; rfl

theorem confD_up (zs : List Int) (dr bu en wa : Int) : ∀ n : Nat, 0 < n → n < (confD zs dr bu en wa).parents.length → 0 ≤ (confD zs dr bu en wa).parents.getD n 0 ∧ (confD zs dr bu en wa).parents.getD n 0 < n :=
  (ParOK.all zs _ ParOK.start).up

theorem calm_start (hc : ConfOK c) (hup : ∀ n : Nat, 0 < n → n < c.parents.length → 0 ≤ c.parents.getD n 0 ∧ c.parents.getD n 0 < n) : Calmly (Tier.new c) :=
  ⟨rfl, fun m => by rw [new_cac]; rfl, fun m e he => (by rw [new_cac] at he; cases he), fun k => Int.le_refl _, by simp [Tier.new], hc.drift.2, by have := hc.budget.1; show 0 ≤ c.budget; omega, hc.entries.1, hc.waiters.1, hup⟩

/-- A calm play, ahead of step i. -/
structure PlayC (script : List StepD) (c : Conf) (i : Nat) (h : Sh) (t : St) : Prop where
  play : Play script c i h t
  calm : Calmly t
  free : ∀ m, (t.cac m).fts = []

theorem PlayC.start (script : List StepD) (hc : ConfOK c) (hup : ∀ n : Nat, 0 < n → n < c.parents.length → 0 ≤ c.parents.getD n 0 ∧ c.parents.getD n 0 < n) : PlayC script c 0 (sh0 c) (Tier.new c) :=
  ⟨Play.start script hc, calm_start hc hup, fun m => by rw [new_cac]; rfl⟩

theorem PlayC.skip (p : PlayC script c i h t) {o : StepD} (ho : script[i]? = some o) (k3 : o.kind ≠ 3) : PlayC script c (i + 1) h t :=
  ⟨⟨⟨p.play.kin.mid.later ho k3, p.play.kin.ans⟩, p.play.siz.more, p.play.ag, p.play.c⟩, p.calm, p.free⟩

theorem PlayC.change (p : PlayC script c i h t) (hc : ConfOK c) {o : StepD} (ho : script[i]? = some o) (hk : o.kind = 0 ∨ o.kind = 1) : PlayC script c (i + 1) (stepF o h t).1 (stepF o h t).2 := by
  have hm := p.play.kin.step ho (by omega) (by rw [p.play.c]; exact hc.len.1)
  have hv : ∀ k, 0 ≤ (t.item k).ver + 1 := fun k => by have := p.calm.items k; omega
  have h3 : (stepF o h t).2.answers = [] ∧ Calmly (stepF o h t).2 ∧ ∀ m, ((stepF o h t).2.cac m).fts = [] := by
    unfold stepF
    by_cases k0 : o.kind = 0
    · rw [if_pos k0]; exact ⟨p.play.kin.ans, calm_changes p.calm _ (hv _), p.free⟩
    · rw [if_neg k0, if_pos (by omega)]
      split
      · exact ⟨p.play.kin.ans, p.calm, p.free⟩
      · exact ⟨p.play.kin.ans, calm_changes p.calm _ (hv _), p.free⟩
  exact ⟨⟨⟨hm, h3.1⟩, p.play.siz.step o t, p.play.ag.step (by omega), by rw [c_step, p.play.c]⟩, h3.2.1, h3.2.2⟩

/-- Behind a question: it is settled, and the same question again finds the same. -/
structure Settled (t : St) (n : Nat) (k : ByteArray) (id : Int) (s : St) (a : Ans) : Prop where
  settle : settleF 100000 (t.wants n k ⟨-1, id, 0, 0⟩) = ({ s with answers := [a] }, false)
  again : s.wants n k ⟨-1, id, 0, 0⟩ = { s with answers := [a] }
  kind : a.kind = 1
  id : a.id = id
  node : a.node = n
  age : a.age = 0
  calm : Calmly s
  free : ∀ m, (s.cac m).fts = []
  answers : s.answers = []
  c : s.c = t.c

theorem settled (hc : Calmly t) (hf : ∀ m, (t.cac m).fts = []) (ha : t.answers = []) (hl : t.c.parents.length ≤ 6) {n : Nat} (h0 : 0 < n) (hn : n < t.c.parents.length) (k : ByteArray) (id : Int) : ∃ s a, Settled t n k id s a := by
  obtain ⟨j, s, e, hj, h1, h2, h3, h4, h5, h6, h7, h8⟩ := Tier.up n t k ⟨-1, id, 0, 0⟩ hc (fun m _ => hf m) h0 hn
  obtain ⟨r1, r2⟩ := Tier.again h2 (n := n) (by rw [h4.c]; exact hn) h6 h7 h8 (h4.answers.trans ha) id
  have hu := Tier.calm_uses h2 n e ⟨h6, h7, h8⟩
  refine ⟨s.uses n e, ⟨n, id, 1, e.ver, e.pres, e.val, 0⟩, ?_, by rw [← h5]; exact r2, rfl, rfl, rfl, rfl, hu, fun m => ?_, h4.answers.trans ha, h4.c⟩
  · rw [r1] at h1
    have := settleF_of j 100000 (t.wants n k ⟨-1, id, 0, 0⟩) (by omega) (by rw [h1]; exact hu.net)
    rw [this, h1]
  · rw [Tier.fts_uses]
    by_cases e : m ≤ n
    · exact h3 m e
    · rw [h4.fts m (by omega)]; exact hf m

theorem PlayC.ask (p : PlayC script c i h t) (hc : ConfOK c) {o : StepD} (ho : script[i]? = some o) (k3 : o.kind = 3) :
    ∃ s a, Settled t (cacheD t.c o.a) (keyD o.b) h.opn.length s a ∧ Tier.heldB h.l (keyD o.b) a.ver a.pres a.val h.now 0 = true ∧ PlayC script c (i + 1) { h with opn := h.opn ++ [true] } s := by
  have h26 : 2 ≤ t.c.parents.length ∧ t.c.parents.length ≤ 6 := by rw [p.play.c]; exact hc.len
  have hca := cacheD_ok h26.1 o.a
  obtain ⟨s, a, S⟩ := settled p.calm p.free p.play.kin.ans h26.2 hca.1 hca.2 (keyD o.b) h.opn.length
  have hm := (p.play.kin.mid.ask ho k3 hca.1 hca.2).settle 100000
  rw [S.settle] at hm
  have hal := hm.answersAny.1.ok a (by show a ∈ [a]; simp)
  have hheld : Tier.heldB h.l (keyD o.b) a.ver a.pres a.val h.now 0 = true := by
    rcases hal with ⟨k2, _⟩ | ⟨_, hh, _⟩
    · have := S.kind; omega
    · have := askedF_at script i o 0 ho k3
      rw [← p.play.kin.mid.ids, Int.zero_add] at this
      rw [S.id, this] at hh
      exact hh
  refine ⟨s, a, S, hheld, ⟨⟨?_, ?_, ⟨?_, fun k h0 h1 => ?_, p.play.ag.zero⟩, S.c.trans p.play.c⟩, S.calm, S.free⟩⟩
  · have := hm.told
    have e : ({ ({ s with answers := [a] } : St) with answers := [] } : St) = s := by have := S.answers; cases s; dsimp only at this ⊢; rw [this]
    rw [e] at this
    exact this
  · have := p.play.siz.step o t
    unfold stepF at this
    rw [if_neg (by omega), if_neg (by omega), if_neg (by omega), if_pos k3] at this
    exact this
  · rw [S.c]; exact p.play.ag.len
  · rw [S.c] at h1
    rw [S.calm.clock k]
    have := p.play.ag.is k h0 h1
    rw [p.calm.clock k] at this
    exact this

/-- A key that nobody ever wrote. -/
def keyNew : ByteArray := ⟨#[110, 101, 119]⟩
theorem keyNew_ok : keyB keyNew = true := by decide
theorem keyNew_ne (j : Nat) : keyI j ≠ keyNew := by
  intro e
  have e : (keyI j).data = keyNew.data := congrArg ByteArray.data e
  match j with
  | 0 => revert e; decide
  | 1 => revert e; decide
  | 2 => revert e; decide
  | _ + 3 => have e : (#[122] : Array UInt8) = #[110, 101, 119] := e; revert e; decide

theorem inv_settle : ∀ (j : Nat) {t : St} {g : Tier.G}, Tier.Inv g t → ∃ g', Tier.Inv g' (settleF j t).1 ∧ g'.h = g.h ∧ g'.kid = g.kid
  | 0, _, g, I => ⟨g, I, rfl, rfl⟩
  | j + 1, t, g, I => by
    unfold settleF
    split
    · exact ⟨g, I, rfl, rfl⟩
    · next x r hn =>
      have hmem : x ∈ t.net := by rw [hn]; simp
      obtain ⟨g', I', _, b', _, d', _, _⟩ := (Tier.inv_comes (Tier.inv_taken I 0) x (I.says.net x hmem)).inv
      obtain ⟨g2, I2, h2, k2⟩ := inv_settle j I'
      exact ⟨g2, I2, h2.trans b', k2.trans d'⟩

theorem PlayC.new (p : PlayC script c i h t) (hc : ConfOK c) : ∃ s, Settled t 1 keyNew 0 s ⟨1, 0, 1, 0, 0, Tier.empty, 0⟩ := by
  have h26 : 2 ≤ t.c.parents.length ∧ t.c.parents.length ≤ 6 := by rw [p.play.c]; exact hc.len
  obtain ⟨s, a, S⟩ := settled p.calm p.free p.play.kin.ans h26.2 (n := 1) (by decide) (by omega) keyNew 0
  obtain ⟨g, I, H, _, e2, _, _⟩ := p.play.kin.mid.inv
  have hz : (t.item keyNew).ver = 0 := by
    unfold Tier.St.item
    cases hf : t.items.find? (fun x => decide (x.key = keyNew)) with
    | none => rfl
    | some x =>
      obtain ⟨hm, hk⟩ := Tier.find_mem hf
      obtain ⟨j, _, hj⟩ := p.play.kin.mid.four x hm
      exact absurd (hj.symm.trans (of_decide_eq_true hk)) (keyNew_ne j)
  have I1 := Tier.inv_asked I 0 keyNew ⟨fun n f w hf => (by rw [p.free n] at hf; cases hf), fun a ha => by rw [p.play.kin.ans] at ha; cases ha⟩
  have G1 := Tier.inv_wants I1 1 (by decide) (by show 1 < g.c.parents.length; rw [← I.conf]; omega) keyNew ⟨-1, 0, 0, 0⟩ ⟨fun _ => by show (if (0 : Int) = 0 then keyNew else g.kid 0) = keyNew; rw [if_pos rfl], fun e => absurd (show (-1 : Int) < 0 by decide) e⟩
  obtain ⟨g', I', _, b', _, d', _, _⟩ := G1.inv
  obtain ⟨g2, I2, h2, k2⟩ := inv_settle 100000 I'
  rw [S.settle] at I2
  have hk : g2.kid a.id = keyNew := by
    rw [S.id, k2, d']
    show (if (0 : Int) = 0 then keyNew else g.kid 0) = keyNew
    rw [if_pos rfl]
  have hh : g2.h = g.h := h2.trans b'
  have hpa := I2.says.answers a (by show a ∈ [a]; simp)
  have hv : a.ver = 0 ∧ a.pres = 0 ∧ a.val = Tier.empty := by
    rcases hpa with ⟨q, _⟩ | ⟨_, hkn, _⟩
    · have := S.kind; omega
    · rcases hkn with hq | ⟨r, hr, hrk, _⟩
      · exact hq
      · rw [hh] at hr
        have h1 := H.2 r hr
        have h2 := (I.items keyNew).2 r hr (hrk.trans hk)
        omega
  obtain ⟨node, id, kind, ver, pres, val, age⟩ := a
  obtain ⟨v1, v2, v3⟩ := hv
  have s1 := S.kind
  have s2 := S.id
  have s3 := S.node
  have s4 := S.age
  dsimp only at v1 v2 v3 s1 s2 s3 s4
  subst v1 v2 v3 s1 s2 s4
  have s3 : node = 1 := s3
  subst s3
  exact ⟨s, S⟩

end Go.Proofs.YtpdkojgepagbnaaDoor

namespace Go.Proofs.YtpdkojgepagbnaaDoor
set_option maxRecDepth 100000
open Go.RowKit
open Tier (Mes Ans Conf St Was)
attribute [local go_sem ↓] Go.wp_at_zero Go.wp_at_succ

variable {n0 : Nat} {own own' : Own} {w w' : World} {bs b : Nat} {t t' : St} {h h' : Sh} {script : List StepD} {c : Conf} {i : Nat}

/-- What holds around a calm run's loop. -/
structure CLoop (n0 : Nat) (own0 : Own) (w0 wr : World) (bs : Nat) (script : List StepD) (c : Conf) (a : Option Addr) (j : Nat) : Prop where
  is : ∃ own t h, Shop n0 own wr bs (500100 * j) t h ∧ KS own0 own w0 wr ∧ PlayC script c j h t
  scr : ScriptAt wr a script
  size : n0 ≤ wr.heap.size

theorem ScriptAt.ks2 {a : Option Addr} {l : List StepD} (hs : ScriptAt w a l) (K : KS own own' w w') (hm : 0 < l.length → ∀ ad, a = some ad → own ad.block = none) : ScriptAt w' a l :=
  hs.turnP K.turn (fun hp ad e h => h (hm hp ad e))

/-- What a call on the tier that takes the answers leaves of the shop. -/
theorem Shop.tookAnswers (s : Shop n0 own w bs b t h) (hn : n0 ≤ w.heap.size) {q : ShG} (hq : ShopIs own w bs q t.c h) (ht : TierAt own' 0 w' q.bt b { t with answers := [] }) (S : Step 0 own own' w w') : Shop n0 own' w' bs b { t with answers := [] } h :=
  s.next (KS.of_step S) ⟨q, ht, hq.step S⟩ hn

set_option maxHeartbeats 8000000 in
theorem calm_walk (a : Option Addr) (cap : Nat) (zs : List Int) (dr bu en wa : Int) (sa : Option Addr) (scap : Nat) (script : List StepD) (n0 : Nat) (w : World) (hK : KeyTab w) (hn : n0 ≤ w.heap.size) (hs : SliceAt w a zs)
    (hsc : ScriptAt w sa script) (hsl : script.length ≤ 1048576) (hsn : 0 < script.length → ∀ ad, sa = some ad → ad.block < n0)
    (KO : ∀ w1, KeyTab w1 → n0 ≤ w1.heap.size → SliceAt w1 a zs → Calls Tryd.prog 16 #[.agg #[.slice a zs.length cap, .int .i64 dr, .int .i64 bu, .int .i64 en, .int .i64 wa]] w1 fun r w' => ∃ bs own', r = .returned (.pointer (some ⟨bs, 0, none⟩)) ∧ Shop n0 own' w' bs 0 (Tier.new (confD zs dr bu en wa)) (sh0 (confD zs dr bu en wa)) ∧ Turn nothing w1 w') :
    Calls Tryd.prog 6 #[.agg #[.slice a zs.length cap, .int .i64 dr, .int .i64 bu, .int .i64 en, .int .i64 wa], .slice sa script.length scap] w fun r w' => r = .returned (.bool true) ∧ Turn (fun k => n0 ≤ k) w w' := by
  have HOK : Hid (ConfOK (confD zs dr bu en wa)) := confB_parts (confD_right zs dr bu en wa)
  have HUP := hide (confD_up zs dr bu en wa)
  generalize confD zs dr bu en wa = c at *
  have KO := hide KO
  have HK := hide hK
  have HSL := hide hs
  have HSC := hide hsc
  have HSN := hide hsn
  have HLEN := hide hsl
  generalize hN : script.length = N at *
  clear hK hs hsc hsn hsl
  go_enter Tryd.func6, Tryd.ntmps6
  go_wp2_with fail
  generalize hW : World.alloc _ _ = W0
  have T0 : Turn nothing w W0 := by rw [← hW]; exact Turn.alloc _ _ _
  clear hW
  refine (unhide KO W0 ((unhide HK).turn T0) (Nat.le_trans hn T0.size) (fun hp => by
    obtain ⟨b, off, e, hr⟩ := unhide HSL hp
    exact ⟨b, off, e, fun j hj => T0.cell (hr j hj) id⟩)).mono ?_
  rintro e w1 ⟨bs, own1, rfl, S1, T1⟩
  have HR0 : Hid (CLoop n0 own1 w1 w1 bs script c sa 0) :=
    ⟨⟨own1, _, _, S1, KS.refl _ _, PlayC.start script (unhide HOK) (unhide HUP)⟩, ((unhide HSC).turn T0 (fun _ _ h => h)).turn T1 (fun _ _ h => h), Nat.le_trans hn (Nat.le_trans T0.size T1.size)⟩
  have HFR : Hid (∀ own2 w2, KS own1 own2 w1 w2 → Turn (fun k => n0 ≤ k) w w2) := fun _ _ K =>
    ((T0.step_turn T1 (fun _ _ h => h)).mono (fun _ _ h => h.elim)).step_turn K.turn (fun k _ h => S1.fresh k h)
  clear S1 T1 T0 KO HK HSL HSC hn HUP
  go_wp2
  go_loopw [6, 7, 8, 9, 10, 11, 12, 13] (fun i _ _ _ _ _ _ _ wr => ∃ j : Nat, j ≤ N ∧ i = .int .i64 (j : Int) ∧ Hid (CLoop n0 own1 w1 wr bs script c sa j)) (fun i _ _ _ _ _ _ _ _ => N - (intOf i).toNat)
  case atStart => exact ⟨0, Nat.zero_le _, rfl, HR0⟩
  case round =>
    clear HR0
    obtain ⟨j, jn, rfl, HR⟩ := hrel
    have hjw : IntKind.i64.wrap ((j : Int) + 1) = (j : Int) + 1 := by rw [IntKind.wrap_i64]; have := unhide HLEN; omega
    obtain ⟨own2, t, h, S, K, P⟩ := (unhide HR).is
    have HSP := hide S
    have HP := hide P
    have HKS := hide K
    have HSZ := hide (unhide HR).size
    have HSR := hide (unhide HR).scr
    clear HR S K P
    by_cases hlt : j < N
    · obtain ⟨o, ho⟩ : ∃ o, script[j]? = some o := ⟨_, List.getElem?_eq_getElem (by omega)⟩
      obtain ⟨sb, off, rfl, c0, c1, c2, c3⟩ := (unhide HSR).at_ j o ho
      obtain ⟨ha, hb, _, _⟩ := (unhide HSR).ok o (List.mem_of_getElem? ho)
      have i0 : (0 : Int) ≤ (j : Int) := by omega
      have i1 : (j : Int) < (N : Int) := by omega
      have HB5 : Hid (500100 * j + 500010 + 500010 ≤ 1000000000000) := by have := unhide HLEN; show _ ≤ _; omega
      have hfree : Hid (0 < script.length → ∀ ad, some (⟨sb, off, none⟩ : Addr) = some ad → own2 ad.block = none) := fun hp ad e => (unhide HSP).free (unhide HSN (by omega) ad e)
      by_cases k3 : o.kind = 3
      · obtain ⟨s, an, SE, hheld, P'⟩ := (unhide HP).ask (unhide HOK) ho k3
        have HSE := hide SE
        have HP' := hide P'
        have HHE := hide hheld
        have KST := hide (fun (w' : World) (T : Turn nothing wr w') => step_ask5 ((unhide HSP).turn T) (Nat.le_trans (unhide HSZ) T.size) (by have := unhide HB5; omega) o k3 ha hb (by have := (unhide HP).play.siz.opn; have := unhide HLEN; omega))
        have KCA := hide (fun (own : Own) (w : World) (q : ShG) (hh : Sh) (s : ShopIs own w bs q t.c hh) => cache_any s (by rw [(unhide HP).play.c]; exact (unhide HOK).len) o.a ha)
        have KK := hide (fun w' => keyOf_any o.b w' hb)
        have HCA := hide (cacheD_ok (c := t.c) (by rw [(unhide HP).play.c]; exact (unhide HOK).len.1) o.a)
        have HKY := hide (keyD_ok o.b)
        have HOL : Hid (h.opn.length ≤ 1048576) := Nat.le_trans (unhide HP).play.siz.opn (by have := unhide HLEN; omega)
        have HHL : Hid (h.l.length ≤ 1048576 ∧ 0 ≤ h.now ∧ h.now ≤ 10000000000) := ⟨Nat.le_trans (unhide HP).play.siz.l (by have := unhide HLEN; omega), (unhide HP).play.siz.now.1, by have := (unhide HP).play.siz.now; have := unhide HLEN; omega⟩
        unfold stepV at KST
        obtain ⟨kind, xa, xb, xs⟩ := o
        dsimp only at k3 c0 c1 c2 c3 KST KCA KK HCA HKY HSE HHE HP'
        subst k3
        have hxo : own2 wr.heap.size = none := (unhide HSP).top _ (Nat.le_refl _)
        clear ha hb SE hheld P' ho HP
        go_wp2_with fail
        generalize hX : World.alloc _ _ = X
        have T0 : Turn nothing wr X := by rw [← hX]; exact Turn.alloc _ _ _
        have x0 : X.cell? ⟨wr.heap.size, 0, none⟩ = some (.int .i64 3) := by rw [← hX]; exact cell_of_cells (new1_0 wr _) 0
        have x1 : X.cell? ⟨wr.heap.size, 1, none⟩ = some (.int .i64 xa) := by rw [← hX]; exact cell_of_cells (new1_0 wr _) 1
        have x2 : X.cell? ⟨wr.heap.size, 2, none⟩ = some (.int .i64 xb) := by rw [← hX]; exact cell_of_cells (new1_0 wr _) 2
        clear hX c0 c1 c2 c3
        refine (unhide KST X T0).mono ?_
        rintro e w2 ⟨rfl, own3, S2, K2⟩
        have y0 := K2.cell x0 hxo
        have y1 := K2.cell x1 hxo
        have y2 := K2.cell x2 hxo
        have hxo3 : own3 wr.heap.size = none := K2.free _ (cell_lt x0) hxo
        have HS2 := hide S2
        have HK2 := hide ((unhide HKS).trans ((KS.of_turn T0).trans K2))
        have HK2s := hide ((KS.of_turn (own := own2) T0).trans K2)
        have HZ2 : Hid (n0 ≤ w2.heap.size) := Nat.le_trans (unhide HSZ) (unhide HK2s).turn.size
        have HSR2 := hide ((unhide HSR).ks2 (unhide HK2s) (unhide hfree))
        have HXL : Hid (wr.heap.size < w2.heap.size) := cell_lt y0
        clear S2 K2 KST x0 x1 x2 T0 HKS HSR HSZ HSP hfree
        go_wp2_with fail
        refine (settles_any (unhide HS2) (unhide HZ2) (by have := unhide HB5; omega)).mono ?_
        rintro e w3 ⟨rfl, own4, S3, K3⟩
        rw [(unhide HSE).settle] at S3
        rw [Bool.or_false] at S3
        dsimp only at S3
        have z1 := K3.cell y1 hxo3
        have z2 := K3.cell y2 hxo3
        have hxo4 : own4 wr.heap.size = none := K3.free _ (unhide HXL) hxo3
        have HK3 := hide ((unhide HK2).trans K3)
        have HZ3 : Hid (n0 ≤ w3.heap.size) := Nat.le_trans (unhide HZ2) K3.turn.size
        have HSR3 := hide ((unhide HSR2).ks2 K3 (fun hp ad e => (unhide HS2).free (unhide HSN (by omega) ad e)))
        have HX3 : Hid (wr.heap.size < w3.heap.size) := cell_lt z1
        have HS3 := hide S3
        obtain ⟨q3, ht3, hq3⟩ := S3.is
        obtain ⟨ob, oc, s1, s2, s3, s4, s5, _⟩ := hq3.shutOne (j := h.opn.length) (by simp)
        have g10 : w3.cell? ⟨bs, 10, none⟩ = some (.slice (some ⟨ob, 0, none⟩) (h.opn.length + 1) oc) := by
          have h1 := cell_of_cells hq3.block 10
          rw [h1]
          show some q3.ov = _
          rw [s1]
          simp
        have g9 : w3.cell? ⟨bs, 9, none⟩ = some (.int .i64 ((h.opn.length : Int) + 1)) := by
          have h1 := cell_of_cells hq3.block 9
          rw [h1]
          show some (Value.int .i64 (((h.opn ++ [true]).length : Nat) : Int)) = _
          rw [List.length_append]; rfl
        have go1 : w3.cell? ⟨ob, h.opn.length, none⟩ = some (.bool true) := s4 true (by simp)
        have g0 : w3.cell? ⟨bs, 0, none⟩ = some (.pointer (some ⟨q3.bt, 0, none⟩)) := cell_of_cells hq3.block 0
        have hwj : IntKind.i64.wrap ((h.opn.length : Int) + 1 - 1) = (h.opn.length : Int) := by rw [IntKind.wrap_i64]; have := unhide HOL; omega
        have hwk : IntKind.i64.wrap (h.opn.length : Int) = (h.opn.length : Int) := by rw [IntKind.wrap_i64]; have := unhide HOL; omega
        have HT3 := hide ht3
        have HQ3 := hide hq3
        have hbs3 := hq3.lt
        have l0 : (0 : Int) ≤ (h.opn.length : Int) := by omega
        have l1 : (h.opn.length : Int) < ((h.opn.length + 1 : Nat) : Int) := by omega
        clear S3 K3 ht3 hq3 s1 s2 s3 s4 s5 y0 y1 y2 HS2 HK2 HK2s HSR2 HXL HZ2 hxo3 hxo
        generalize hLL : h.opn.length = LL at *
        have HLL := hide hLL
        clear hLL
        go_wp2
        go_quiet (fail)
        generalize hV : World.drewN w3 _ = V3
        have TV3 : Turn nothing w3 V3 := by rw [← hV]; exact Turn.drewN _ _ _
        have v0 := TV3.cell g0 id
        have v1 := TV3.cell z1 id
        have v2 := TV3.cell z2 id
        have HTV := hide TV3
        clear hV g10 g9 go1 g0 z1 z2 TV3
        go_wp2_with fail
        refine ((unhide HT3).turn (unhide HTV)).answers.mono ?_
        rintro e w4 ⟨v, rfl, own5, T4, S4, L4⟩
        have hsa : ({ ({ s with answers := [an] } : St) with answers := [] } : St) = s := by
          have := (unhide HSE).answers
          cases s
          dsimp only at this ⊢
          rw [this]
        have S5 := ((unhide HS3).turn (unhide HTV)).tookAnswers (Nat.le_trans (unhide HZ3) (unhide HTV).size) ((unhide HQ3).turn (unhide HTV)) T4 S4
        rw [hsa] at S5
        obtain ⟨va, vc, hv⟩ := row_form L4.row
        have hv : v = .slice va 1 vc := hv
        subst hv
        obtain ⟨lb, lc, elv, lbo, lblt, lcell⟩ := L4.atM (l := [an]) (fun _ => rfl) (j := 0) (a := an) rfl
        have elv : Value.slice va 1 vc = .slice (some ⟨lb, 0, none⟩) 1 lc := elv
        cases elv
        have u1 := (KS.of_step S4).cell v1 hxo4
        have u2 := (KS.of_step S4).cell v2 hxo4
        have hxo5 : own5 wr.heap.size = none := (KS.of_step S4).free _ (cell_lt v1) hxo4
        have K34 : KS own4 own5 w3 w4 := (KS.of_turn (unhide HTV)).trans (KS.of_step S4)
        have HK4 := hide ((unhide HK3).trans K34)
        have HZ4 : Hid (n0 ≤ w4.heap.size) := Nat.le_trans (unhide HZ3) K34.turn.size
        have HSR4 := hide ((unhide HSR3).ks2 K34 (fun hp ad e => (unhide HS3).free (unhide HSN (by omega) ad e)))
        obtain ⟨anode, aid, akind, aver, apres, aval, aage⟩ := an
        have e1 : akind = 1 := (unhide HSE).kind
        have e2 : aid = (LL : Int) := (unhide HSE).id
        have e3 : aage = 0 := (unhide HSE).age
        subst e1 e2 e3
        have r0 : w4.cell? ⟨lb, 0, none⟩ = some (.int .i64 anode) := lcell 0 (by omega)
        have r1 : w4.cell? ⟨lb, 1, none⟩ = some (.int .i64 (LL : Int)) := lcell 1 (by omega)
        have r2 : w4.cell? ⟨lb, 2, none⟩ = some (.int .i64 1) := lcell 2 (by omega)
        have r3 : w4.cell? ⟨lb, 3, none⟩ = some (.int .i64 aver) := lcell 3 (by omega)
        have r4 : w4.cell? ⟨lb, 4, none⟩ = some (.int .i64 apres) := lcell 4 (by omega)
        have r5 : w4.cell? ⟨lb, 5, none⟩ = some (.string aval) := lcell 5 (by omega)
        have r6 : w4.cell? ⟨lb, 6, none⟩ = some (.int .i64 0) := lcell 6 (by omega)
        have HL4 := hide L4
        have HS5 := hide S5
        obtain ⟨q5, ht5, hq5⟩ := S5.is
        rw [(unhide HSE).c] at hq5
        have f9 : w4.cell? ⟨bs, 9, none⟩ = some (.int .i64 ((LL : Int) + 1)) := by
          have h1 := cell_of_cells hq5.block 9
          rw [h1]
          show some (Value.int .i64 (((h.opn ++ [true]).length : Nat) : Int)) = _
          rw [List.length_append, unhide HLL]; rfl
        have f0 : w4.cell? ⟨bs, 0, none⟩ = some (.pointer (some ⟨q5.bt, 0, none⟩)) := cell_of_cells hq5.block 0
        have hbs4 := hq5.lt
        have HT5 := hide ht5
        have HQ5 := hide hq5
        clear lcell S4 T4 L4 S5 K34 ht5 hq5 v0 v1 v2 hsa HT3 HQ3 HTV HS3 HK3 HSR3 HZ3 hxo4
        go_wp2
        go_quiet (fail)
        generalize hV : World.drewN w4 _ = V4
        have TV4 : Turn nothing w4 V4 := by rw [← hV]; exact Turn.drewN _ _ _
        have v2 := TV4.cell u2 id
        have p0 := TV4.cell r0 id
        have p1 := TV4.cell r1 id
        have p2 := TV4.cell r2 id
        have p3 := TV4.cell r3 id
        have p4 := TV4.cell r4 id
        have p5 := TV4.cell r5 id
        have p6 := TV4.cell r6 id
        have KH : Hid (∀ w', Turn nothing V4 w' → Calls Tryd.prog 20 #[.pointer (some ⟨bs, 0, none⟩), .string (keyD xb), ansV ⟨anode, (LL : Int), 1, aver, apres, aval, 0⟩, .int .i64 0] w' fun e w'' => e = .returned (.bool true) ∧ Turn nothing w' w'') := fun w' T => by
          have h1 := held_any (((unhide HQ5).turn TV4).turn T) (Nat.le_trans (unhide HHL).1 (by decide)) ⟨(unhide HHL).2.1, Int.le_trans (unhide HHL).2.2 (by decide)⟩ (keyD xb) ⟨anode, (LL : Int), 1, aver, apres, aval, 0⟩ 0
          dsimp only at h1
          rw [unhide HHE] at h1
          exact h1
        have HTV4 := hide TV4
        unfold ansV ansL at KH
        clear hV TV4
        go_wp2
        have HS : ∀ w', Turn nothing V4 w' → Turn nothing V4 w' ∧ w'.cell? ⟨wr.heap.size, 2, none⟩ = some (.int .i64 xb) ∧ w'.cell? ⟨lb, 0, none⟩ = some (.int .i64 anode) ∧ w'.cell? ⟨lb, 1, none⟩ = some (.int .i64 (LL : Int)) ∧ w'.cell? ⟨lb, 2, none⟩ = some (.int .i64 1) ∧ w'.cell? ⟨lb, 3, none⟩ = some (.int .i64 aver) ∧ w'.cell? ⟨lb, 4, none⟩ = some (.int .i64 apres) ∧ w'.cell? ⟨lb, 5, none⟩ = some (.string aval) ∧ w'.cell? ⟨lb, 6, none⟩ = some (.int .i64 0) := fun w' T => ⟨T, T.cell v2 id, T.cell p0 id, T.cell p1 id, T.cell p2 id, T.cell p3 id, T.cell p4 id, T.cell p5 id, T.cell p6 id⟩
        go_region_held3 (fun w' => Turn nothing V4 w' ∧ w'.cell? ⟨wr.heap.size, 2, none⟩ = some (.int .i64 xb) ∧ w'.cell? ⟨lb, 0, none⟩ = some (.int .i64 anode) ∧ w'.cell? ⟨lb, 1, none⟩ = some (.int .i64 (LL : Int)) ∧ w'.cell? ⟨lb, 2, none⟩ = some (.int .i64 1) ∧ w'.cell? ⟨lb, 3, none⟩ = some (.int .i64 aver) ∧ w'.cell? ⟨lb, 4, none⟩ = some (.int .i64 apres) ∧ w'.cell? ⟨lb, 5, none⟩ = some (.string aval) ∧ w'.cell? ⟨lb, 6, none⟩ = some (.int .i64 0)) ((go_split_ands; apply HS; all_goals (repeat (first | with_reducible assumption | with_reducible exact Turn.refl _ _ | with_reducible apply Turn.step_alloc | with_reducible apply Turn.step_drew | ((with_reducible refine Turn.step_turn (N := nothing) ?_ (by assumption) ?_); rotate_left; · exact fun _ _ h => False.elim h) | ((with_reducible refine Turn.step_set ?_ ?_); rotate_left; · first | exact Or.inr rfl | exact Or.inr (Or.inl rfl) | exact Or.inl (by simp <;> omega)) | ((with_reducible refine Turn.step_turn ?_ (Turn.grown (by assumption)) ?_); rotate_left; · exact fun _ _ h => Or.inr h) | with_reducible apply There.drew | with_reducible apply There.set | ((with_reducible refine There.turn ?_ (by assumption) ?_); rotate_left; · exact id) | assumption)))) (first | (go_at_call 21; go_split_ands; refine (unhide KK _).mono ?_; rintro e w9 ⟨rfl, T9⟩) | (go_at_call 20; go_split_ands; refine (unhide KH _ ((Turn.drew nothing V4).step_turn T9 (fun _ _ h => h))).mono ?_; rintro e w8 ⟨rfl, T8⟩; have TF : Turn nothing V4 w8 := ((Turn.drew nothing V4).step_turn T9 (fun _ _ h => h)).step_turn T8 (fun _ _ h => h)))
        go_split_ands
        have T48 := (unhide HTV4).step_turn TF (fun _ _ h => h)
        have HS8 := hide ((unhide HS5).turn T48)
        have HT8 := hide ((unhide HT5).turn T48)
        have HQ8 := hide ((unhide HQ5).turn T48)
        have HL8 := hide ((unhide HL4).step (Step.of_turn (τ := 0) T48))
        have a0 := T48.cell f0 id
        have a9 := T48.cell f9 id
        have a1 := T48.cell u1 id
        have a2 := T48.cell u2 id
        have HK8 := hide ((unhide HK4).trans (KS.of_turn T48))
        have HZ8 : Hid (n0 ≤ w8.heap.size) := Nat.le_trans (unhide HZ4) T48.size
        have HSR8 := hide ((unhide HSR4).turn T48 (fun _ _ h => h))
        have hn0 : ¬ Mine own5 0 wr.heap.size := fun ⟨y, hy⟩ => by rw [hxo5] at hy; cases hy
        have hnb : ¬ Mine own5 0 bs := fun ⟨y, hy⟩ => by rw [(unhide HQ5).blockO] at hy; cases hy
        have HNB := hide hnb
        have KAS : Hid (∀ w', Turn nothing w8 w' → Calls Tryd.prog 22 #[.pointer (some ⟨q5.bt, 0, none⟩), .int .i64 ((cacheD t.c xa : Nat) : Int), .int .i64 (LL : Int), .string (keyD xb)] w' fun r w'' => r = .returned (.int .i64 0) ∧ Leaves own5 0 w' q5.bt (500100 * j + 5 + 500000 + 5) { s with answers := [⟨anode, (LL : Int), 1, aver, apres, aval, 0⟩] } w'') := fun w' T => by
          have h1 := ((unhide HT8).turn T).ask ((unhide HS8).keys.turn T) (by have := unhide HB5; omega) (n := cacheD t.c xa) (id := (LL : Int)) (k := keyD xb) (unhide HCA).1 (by rw [(unhide HSE).c]; exact (unhide HCA).2) (unhide HKY)
          rw [(unhide HSE).again] at h1
          exact h1
        clear T9 T8 TF T48 p0 p1 p2 p3 p4 p5 p6 v2 r0 r1 r2 r3 r4 r5 r6 f0 f9 u1 u2 KH HTV4 HS5 HT5 HQ5 HL4 HK4 HZ4 HSR4
        clear HS
        generalize cacheD t.c xa = ca at *
        go_wp2
        have HS : ∀ w', Turn (Mine own5 0) w8 w' → Turn (Mine own5 0) w8 w' ∧ w'.cell? ⟨bs, 0, none⟩ = some (.pointer (some ⟨q5.bt, 0, none⟩)) ∧ w'.cell? ⟨bs, 9, none⟩ = some (.int .i64 ((LL : Int) + 1)) ∧ w'.cell? ⟨wr.heap.size, 1, none⟩ = some (.int .i64 xa) ∧ w'.cell? ⟨wr.heap.size, 2, none⟩ = some (.int .i64 xb) := fun w' T => ⟨T, T.cell a0 (by first | exact hn0 | exact hnb), T.cell a9 (by first | exact hn0 | exact hnb), T.cell a1 (by first | exact hn0 | exact hnb), T.cell a2 (by first | exact hn0 | exact hnb)⟩
        go_region_held3 (fun w' => Turn (Mine own5 0) w8 w' ∧ w'.cell? ⟨bs, 0, none⟩ = some (.pointer (some ⟨q5.bt, 0, none⟩)) ∧ w'.cell? ⟨bs, 9, none⟩ = some (.int .i64 ((LL : Int) + 1)) ∧ w'.cell? ⟨wr.heap.size, 1, none⟩ = some (.int .i64 xa) ∧ w'.cell? ⟨wr.heap.size, 2, none⟩ = some (.int .i64 xb)) ((go_split_ands; apply HS; all_goals (repeat (first | with_reducible assumption | with_reducible exact Turn.refl _ _ | with_reducible apply Turn.step_alloc | with_reducible apply Turn.step_drew | ((with_reducible refine Turn.step_turn (N := nothing) ?_ (by assumption) ?_); rotate_left; · exact fun _ _ h => False.elim h) | ((with_reducible refine Turn.step_set ?_ ?_); rotate_left; · first | exact Or.inr rfl | exact Or.inr (Or.inl rfl) | exact Or.inl (by simp <;> omega)) | ((with_reducible refine Turn.step_turn ?_ (Turn.grown (by assumption)) ?_); rotate_left; · exact fun _ _ h => Or.inr h) | with_reducible apply There.drew | with_reducible apply There.set | ((with_reducible refine There.turn ?_ (by assumption) ?_); rotate_left; · exact id) | assumption)))) (first | (go_at_call 23; go_split_ands; refine (unhide KCA own5 _ q5 _ ((unhide HQ8).turn (Turn.drew nothing w8))).mono ?_; rintro e w7 ⟨rfl, rfl⟩) | (go_at_call 21; go_split_ands; refine (unhide KK _).mono ?_; rintro e w9 ⟨rfl, T9⟩) | (go_at_call 22; go_split_ands; refine (unhide KAS _ ((Turn.drew nothing w8).step_turn T9 (fun _ _ h => h))).mono ?_; rintro e wA ⟨rfl, own8, T8, S8⟩; have TF : Turn (Mine own5 0) w8 wA := ((Turn.drew _ w8).step_turn T9 (fun _ _ h => h.elim)).step_turn S8.turn (fun _ _ h => h)))
        go_split_ands
        have T19 := (Turn.drew nothing w8).step_turn T9 (fun _ _ h => h)
        have hsc2 : ({ s with answers := [⟨anode, (LL : Int), 1, aver, apres, aval, 0⟩] } : St).c = s.c := rfl
        have hqA : ShopIs own8 wA bs q5 ({ s with answers := [⟨anode, (LL : Int), 1, aver, apres, aval, 0⟩] } : St).c ⟨h.now, h.clocks, h.l, h.opn ++ [true], h.tired⟩ := by rw [hsc2, (unhide HSE).c]; exact ((unhide HQ8).turn T19).step S8
        have htA := T8
        have SA := ((unhide HS8).turn T19).next (b' := 500100 * j + 5 + 500000 + 5) (t' := { s with answers := [⟨anode, (LL : Int), 1, aver, apres, aval, 0⟩] }) (KS.of_step S8) ⟨q5, T8, hqA⟩ (Nat.le_trans (unhide HZ8) T19.size)
        have KA8 : KS own5 own8 w8 wA := (KS.of_turn T19).trans (KS.of_step S8)
        have HKA := hide ((unhide HK8).trans KA8)
        have HZA : Hid (n0 ≤ wA.heap.size) := Nat.le_trans (unhide HZ8) KA8.turn.size
        have HSRA := hide ((unhide HSR8).ks2 KA8 (fun hp ad e => (unhide HS8).free (unhide HSN (by omega) ad e)))
        have HLA := hide (((unhide HL8).step (Step.of_turn (τ := 0) T19)).step S8)
        have b0 : wA.cell? ⟨bs, 0, none⟩ = some (.pointer (some ⟨q5.bt, 0, none⟩)) := cell_of_cells hqA.block 0
        have hbsA := hqA.lt
        have HSA := hide SA
        have HTA := hide htA
        have HQA := hide hqA
        have KNE : Hid (Calls Tryd.prog 24 #[.pointer (some ⟨q5.bt, 0, none⟩)] wA fun r w' => ∃ a c, r = .returned (.slice a 0 c) ∧ Turn nothing wA w') := by
          refine (htA.net (by have := unhide HB5; omega)).mono ?_
          rintro r w' ⟨v, rfl, T, R⟩
          obtain ⟨a, c, hv⟩ := row_form R
          have hn0 : ({ s with answers := [⟨anode, (LL : Int), 1, aver, apres, aval, 0⟩] } : St).net.length = 0 := by rw [show ({ s with answers := [⟨anode, (LL : Int), 1, aver, apres, aval, 0⟩] } : St).net = s.net from rfl, (unhide HSE).calm.net]; rfl
          rw [hn0] at hv
          exact ⟨a, c, by rw [hv], T⟩
        clear T9 T8 TF T19 S8 SA KA8 htA hqA hsc2 a0 a9 a1 a2 KAS KCA KK HS8 HT8 HQ8 HL8 HK8 HZ8 HSR8 hn0 hnb HNB
        clear HS
        go_wp2_with fail
        refine (unhide KNE).mono ?_
        rintro e wB ⟨na, nc, rfl, TB⟩
        have b1 := TB.cell b0 id
        have HTB := hide TB
        clear TB b0 KNE
        go_wp2_with fail
        refine ((unhide HTA).turn (unhide HTB)).answers.mono ?_
        rintro e wC ⟨v, rfl, ownC, TC, SC, LC⟩
        have hsa : ({ ({ s with answers := [⟨anode, (LL : Int), 1, aver, apres, aval, 0⟩] } : St) with answers := [] } : St) = s := by
          have := (unhide HSE).answers
          cases s
          dsimp only at this ⊢
          rw [this]
        have SS := ((unhide HSA).turn (unhide HTB)).tookAnswers (Nat.le_trans (unhide HZA) (unhide HTB).size) ((unhide HQA).turn (unhide HTB)) TC SC
        rw [hsa] at SS
        obtain ⟨va2, vc2, hv⟩ := row_form LC.row
        have hv : v = .slice va2 1 vc2 := hv
        subst hv
        obtain ⟨mb, mc, elv, _, mblt, mcell⟩ := LC.atM (α := Ans) (l := [⟨anode, (LL : Int), 1, aver, apres, aval, 0⟩]) (fun _ => rfl) (j := 0) (a := ⟨anode, (LL : Int), 1, aver, apres, aval, 0⟩) rfl
        have elv : Value.slice va2 1 vc2 = .slice (some ⟨mb, 0, none⟩) 1 mc := elv
        cases elv
        obtain ⟨lb2, lc2, elv, _, lblt2, lcell⟩ := ((((unhide HLA).step (Step.of_turn (τ := 0) (unhide HTB))).step SC)).atM (α := Ans) (l := [⟨anode, (LL : Int), 1, aver, apres, aval, 0⟩]) (fun _ => rfl) (j := 0) (a := ⟨anode, (LL : Int), 1, aver, apres, aval, 0⟩) rfl
        have elv : Value.slice (some ⟨lb, 0, none⟩) 1 vc = .slice (some ⟨lb2, 0, none⟩) 1 lc2 := elv
        cases elv
        have r0 : wC.cell? ⟨lb, 0, none⟩ = some (.int .i64 anode) := lcell 0 (by omega)
        have r1 : wC.cell? ⟨lb, 1, none⟩ = some (.int .i64 (LL : Int)) := lcell 1 (by omega)
        have r2 : wC.cell? ⟨lb, 2, none⟩ = some (.int .i64 1) := lcell 2 (by omega)
        have r3 : wC.cell? ⟨lb, 3, none⟩ = some (.int .i64 aver) := lcell 3 (by omega)
        have r4 : wC.cell? ⟨lb, 4, none⟩ = some (.int .i64 apres) := lcell 4 (by omega)
        have r5 : wC.cell? ⟨lb, 5, none⟩ = some (.string aval) := lcell 5 (by omega)
        have r6 : wC.cell? ⟨lb, 6, none⟩ = some (.int .i64 0) := lcell 6 (by omega)
        have m0 : wC.cell? ⟨mb, 0, none⟩ = some (.int .i64 anode) := mcell 0 (by omega)
        have m1 : wC.cell? ⟨mb, 1, none⟩ = some (.int .i64 (LL : Int)) := mcell 1 (by omega)
        have m2 : wC.cell? ⟨mb, 2, none⟩ = some (.int .i64 1) := mcell 2 (by omega)
        have m3 : wC.cell? ⟨mb, 3, none⟩ = some (.int .i64 aver) := mcell 3 (by omega)
        have m4 : wC.cell? ⟨mb, 4, none⟩ = some (.int .i64 apres) := mcell 4 (by omega)
        have m5 : wC.cell? ⟨mb, 5, none⟩ = some (.string aval) := mcell 5 (by omega)
        have m6 : wC.cell? ⟨mb, 6, none⟩ = some (.int .i64 0) := mcell 6 (by omega)
        have KAC : KS own8 ownC wA wC := (KS.of_turn (unhide HTB)).trans (KS.of_step SC)
        have HFIN : Hid (∀ wx, Turn nothing wC wx → CLoop n0 own1 w1 wx bs script c (some ⟨sb, off, none⟩) (j + 1)) := fun wx T =>
          ⟨⟨ownC, s, _, (SS.mono (by omega)).turn T, ((unhide HKA).trans KAC).trans (KS.of_turn T), unhide HP'⟩, ((unhide HSRA).ks2 KAC (fun hp ad e => (unhide HSA).free (unhide HSN (by omega) ad e))).turn T (fun _ _ h => h), Nat.le_trans (unhide HZA) (Nat.le_trans KAC.turn.size T.size)⟩
        clear lcell mcell SC TC LC SS KAC hsa b1 HTA HQA HLA HSA HTB HKA HZA HSRA HSE HHE HP'
        go_wp2
        go_quiet (fail)
        generalize hV : World.drewN wC _ = V5
        have HE := hide (unhide HFIN V5 (by rw [← hV]; exact Turn.drewN _ _ _))
        clear hV r0 r1 r2 r3 r4 r5 r6 m0 m1 m2 m3 m4 m5 m6 HFIN
        go_wp2
        go_roundw
        case rel => exact ⟨j + 1, by omega, by go_num, HE⟩
        case measure => simp [intOf]; omega
      · by_cases k01 : o.kind = 0 ∨ o.kind = 1
        · have P' := (unhide HP).change (unhide HOK) ho k01
          have KST := hide (fun (w' : World) (T : Turn nothing wr w') => step_any ((unhide HSP).turn T) (Nat.le_trans (unhide HSZ) T.size) (by have := unhide HB5; omega) o ((unhide HP).play.ok ((unhide HSP).turn T) (by have := unhide HLEN; omega) ha hb))
          have HP' := hide P'
          generalize stepF o h t = F at *
          unfold stepV at KST
          obtain ⟨kind, xa, xb, xs⟩ := o
          dsimp only at k3 k01 c0 c1 c2 c3 KST
          have hxo : own2 wr.heap.size = none := (unhide HSP).top _ (Nat.le_refl _)
          clear ha hb P' ho HP
          rcases k01 with k0 | k0 <;> subst k0
          all_goals
            go_wp2_with fail
            generalize hX : World.alloc _ _ = X
            have T0 : Turn nothing wr X := by rw [← hX]; exact Turn.alloc _ _ _
            have x0 := show X.cell? ⟨wr.heap.size, 0, none⟩ = some (.int .i64 _) by rw [← hX]; exact cell_of_cells (new1_0 wr _) 0
            clear hX c0 c1 c2 c3
            refine (unhide KST X T0).mono ?_
            rintro e w2 ⟨rfl, own3, S2, K2⟩
            have y0 := K2.cell x0 hxo
            have K02 := (KS.of_turn (own := own2) T0).trans K2
            have HE : Hid (CLoop n0 own1 w1 w2 bs script c (some ⟨sb, off, none⟩) (j + 1)) :=
              ⟨⟨own3, _, _, S2.mono (by omega), (unhide HKS).trans K02, unhide HP'⟩, (unhide HSR).ks2 K02 (unhide hfree), Nat.le_trans (unhide HSZ) K02.turn.size⟩
            clear S2 K2 KST x0 T0 HKS HSR HSZ HSP hfree K02 HP'
            go_wp2
            go_roundw
            case rel => exact ⟨j + 1, by omega, by go_num, HE⟩
            case measure => simp [intOf]; omega
        · have P' := (unhide HP).skip ho k3
          have HE : Hid (∀ wx, Turn nothing wr wx → CLoop n0 own1 w1 wx bs script c (some ⟨sb, off, none⟩) (j + 1)) := fun wx T =>
            ⟨⟨own2, t, h, ((unhide HSP).mono (by omega)).turn T, (unhide HKS).trans (KS.of_turn T), P'⟩, (unhide HSR).turn T (fun _ _ h => h), Nat.le_trans (unhide HSZ) T.size⟩
          obtain ⟨kind, xa, xb, xs⟩ := o
          dsimp only at k3 k01 c0 c1 c2 c3
          have d3 : decide (kind = 3) = false := decide_eq_false k3
          clear ha hb P' ho HP HKS HSR HSZ HSP hfree
          by_cases kn : kind < 0
          · clear k01 k3
            go_wp2
            generalize hX : World.alloc _ _ = X
            have HE2 := hide (unhide HE X (by rw [← hX]; exact Turn.alloc _ _ _))
            go_roundw
            case rel => exact ⟨j + 1, by omega, by go_num, HE2⟩
            case measure => simp [intOf]; omega
          · have k1 : 1 < kind := by omega
            clear k01
            go_wp2
            generalize hX : World.alloc _ _ = X
            have HE2 := hide (unhide HE X (by rw [← hX]; exact Turn.alloc _ _ _))
            go_roundw
            case rel => exact ⟨j + 1, by omega, by go_num, HE2⟩
            case measure => simp [intOf]; omega
    · have i1 : ¬ (j : Int) < (N : Int) := by omega
      obtain ⟨s, SE⟩ := (unhide HP).new (unhide HOK)
      have HSE := hide SE
      obtain ⟨q, ht, hq⟩ := (unhide HSP).is
      have d0 : wr.cell? ⟨bs, 0, none⟩ = some (.pointer (some ⟨q.bt, 0, none⟩)) := cell_of_cells hq.block 0
      have HQ := hide hq
      have hbs := hq.lt
      have HB5 : Hid (500100 * j + 500010 + 500010 ≤ 1000000000000) := by have := unhide HLEN; show _ ≤ _; omega
      have KAS : Hid (Calls Tryd.prog 22 #[.pointer (some ⟨q.bt, 0, none⟩), .int .i64 1, .int .i64 0, .string ⟨#[110, 101, 119]⟩] wr fun r w'' => r = .returned (.int .i64 0) ∧ Leaves own2 0 wr q.bt (500100 * j + 5) (t.wants 1 keyNew ⟨-1, 0, 0, 0⟩) w'') :=
        ht.ask (unhide HSP).keys (by have := unhide HB5; omega) (n := 1) (id := 0) (k := keyNew) (by decide) (by have := ht.len; omega) keyNew_ok
      have HP2 := hide (unhide HP).play.c
      clear ht hq HSR HP SE
      go_wp2_with fail
      refine (unhide KAS).mono ?_
      rintro e w2 ⟨rfl, L2⟩
      obtain ⟨own3, S2, K2⟩ := (unhide HSP).leaves (unhide HSZ) (unhide HQ) L2 (c_wants ..)
      have HS2 := hide S2
      have HK2 := hide ((unhide HKS).trans K2)
      have HZ2 : Hid (n0 ≤ w2.heap.size) := Nat.le_trans (unhide HSZ) K2.turn.size
      clear L2 S2 K2 KAS d0 HQ HSP HKS HSZ
      go_wp2_with fail
      refine (settles_any (unhide HS2) (unhide HZ2) (by have := unhide HB5; omega)).mono ?_
      rintro e w3 ⟨rfl, own4, S3, K3⟩
      rw [(unhide HSE).settle] at S3
      dsimp only at S3
      have HK3 := hide ((unhide HK2).trans K3)
      obtain ⟨q3, ht3, hq3⟩ := S3.is
      have g0 : w3.cell? ⟨bs, 0, none⟩ = some (.pointer (some ⟨q3.bt, 0, none⟩)) := cell_of_cells hq3.block 0
      have hbs3 := hq3.lt
      have KAN := hide ht3.answers
      clear S3 K3 ht3 hq3 HS2 HK2 HZ2
      go_wp2_with fail
      refine (unhide KAN).mono ?_
      rintro e w4 ⟨v, rfl, own5, T4, S4, L4⟩
      obtain ⟨va, vc, hv⟩ := row_form L4.row
      have hv : v = .slice va 1 vc := hv
      subst hv
      obtain ⟨lb, lc, elv, lbo, lblt, lcell⟩ := L4.atM (α := Ans) (l := [⟨1, 0, 1, 0, 0, Tier.empty, 0⟩]) (fun _ => rfl) (j := 0) (a := ⟨1, 0, 1, 0, 0, Tier.empty, 0⟩) rfl
      have elv : Value.slice va 1 vc = .slice (some ⟨lb, 0, none⟩) 1 lc := elv
      cases elv
      have r0 : w4.cell? ⟨lb, 0, none⟩ = some (.int .i64 1) := lcell 0 (by omega)
      have r1 : w4.cell? ⟨lb, 1, none⟩ = some (.int .i64 0) := lcell 1 (by omega)
      have r2 : w4.cell? ⟨lb, 2, none⟩ = some (.int .i64 1) := lcell 2 (by omega)
      have r3 : w4.cell? ⟨lb, 3, none⟩ = some (.int .i64 0) := lcell 3 (by omega)
      have r4 : w4.cell? ⟨lb, 4, none⟩ = some (.int .i64 0) := lcell 4 (by omega)
      have r5 : w4.cell? ⟨lb, 5, none⟩ = some (.string ⟨#[]⟩) := lcell 5 (by omega)
      have r6 : w4.cell? ⟨lb, 6, none⟩ = some (.int .i64 0) := lcell 6 (by omega)
      have HE := hide (unhide HFR _ _ ((unhide HK3).trans (KS.of_step S4)))
      clear lcell S4 T4 L4 KAN g0 HK3 HSE HFR
      go_wp2
      go_ret
      exact ⟨rfl, unhide HE⟩

end Go.Proofs.YtpdkojgepagbnaaDoor

namespace Go.Proofs.YtpdkojgepagbnaaDoor
set_option maxRecDepth 100000
open Go.RowKit
open Tier (Mes Ans Conf St Was)

theorem opened_calm (a : Option Addr) (cap : Nat) (zs : List Int) (dr bu en wa : Int) (n0 : Nat) (hlow : 1 < n0) (hz : zs.length ≤ 1048576) (hzi : ∀ z ∈ zs, I64 z) (hi : I64 dr ∧ I64 bu ∧ I64 en ∧ I64 wa)
    (w1 : World) (hK : KeyTab w1) (hn : n0 ≤ w1.heap.size) (hs : SliceAt w1 a zs) :
    Calls Tryd.prog 16 #[.agg #[.slice a zs.length cap, .int .i64 dr, .int .i64 bu, .int .i64 en, .int .i64 wa]] w1 fun r w' => ∃ bs own', r = .returned (.pointer (some ⟨bs, 0, none⟩)) ∧ Shop n0 own' w' bs 0 (Tier.new (confD zs dr bu en wa)) (sh0 (confD zs dr bu en wa)) ∧ Turn nothing w1 w' :=
  opened_of a cap zs dr bu en wa n0 w1 hK hn hlow hs (fun w2 h2 => config_any a cap zs dr bu en wa w2 (Nat.le_trans hz (by decide)) h2 hzi hi.1 hi.2.1 hi.2.2.1 hi.2.2.2)

theorem below_calm {w w' : World} (T : Turn (fun k => w.heap.size ≤ k) w w') : Below w.heap.size w w' := ⟨T.os, T.tape, T.output, T.size, fun k hk => T.block k hk (by omega)⟩
theorem script_calm {w : World} {a : Option Addr} {l : List StepD} (h : ScriptAt w a l) (hp : 0 < l.length) : ∀ ad, a = some ad → ad.block < w.heap.size := fun ad e => by
  obtain ⟨b, off, e2, c0, _⟩ := h.at_ 0 _ (List.getElem?_eq_getElem hp)
  rw [e] at e2
  cases e2
  exact cell_lt c0

theorem calm_any (a : Option Addr) (cap : Nat) (zs : List Int) (dr bu en wa : Int) (sa : Option Addr) (scap : Nat) (script : List StepD) (w : World) (hK : KeyTab w) (hs : SliceAt w a zs) (hz : zs.length ≤ 1048576) (hzi : ∀ z ∈ zs, I64 z) (hi : I64 dr ∧ I64 bu ∧ I64 en ∧ I64 wa)
    (hsc : ScriptAt w sa script) (hsl : script.length ≤ 1048576) :
    Calls Tryd.prog 6 #[.agg #[.slice a zs.length cap, .int .i64 dr, .int .i64 bu, .int .i64 en, .int .i64 wa], .slice sa script.length scap] w fun r w' => r = .returned (.bool true) ∧ Below w.heap.size w w' :=
  (calm_walk a cap zs dr bu en wa sa scap script w.heap.size w hK (Nat.le_refl _) hs hsc hsl (script_calm hsc)
    (opened_calm a cap zs dr bu en wa w.heap.size (cell_lt hK.1) hz hzi hi)).mono fun _ _ ⟨e, T⟩ => ⟨e, below_calm T⟩

end Go.Proofs.YtpdkojgepagbnaaDoor
