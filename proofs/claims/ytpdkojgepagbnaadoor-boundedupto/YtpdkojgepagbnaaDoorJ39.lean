/-
  A budgeted run.
  An honest run.
-/
import Derived.Test.YtpdkojgepagbnaaDoorJ35
import Derived.Test.YtpdkojgepagbnaaDoorJ38
namespace Go.Proofs.YtpdkojgepagbnaaDoor
set_option maxRecDepth 100000
open Go.RowKit
open Tier (Mes Ans Conf St Was)
attribute [local go_sem ↓] Go.wp_at_zero Go.wp_at_succ

variable {n0 : Nat} {own own' : Own} {w w' : World} {bs b : Nat} {t t' : St} {h h' : Sh}

theorem ScriptAt.ks {a : Option Addr} {l : List StepD} (hs : ScriptAt w a l) (K : KS own own' w w') (hm : ∀ ad, a = some ad → own ad.block = none) : ScriptAt w' a l :=
  hs.turn K.turn (fun ad e h => h (hm ad e))

theorem Shop.fewOf (S : Shop n0 own w bs b t h) (h4 : ∀ x ∈ t.items, ∃ j, j < 4 ∧ x.key = keyI j) : t.items.length < 16 := by
  obtain ⟨q, ht, _⟩ := S.is
  have := ht.few h4
  omega
theorem Shop.clkOf (S : Shop n0 own w bs b t h) {n : Nat} (hn : n < t.c.parents.length) : 0 ≤ (t.cac n).clock ∧ (t.cac n).clock ≤ 1099511627776 := by
  obtain ⟨q, ht, _⟩ := S.is
  exact ht.clk hn

theorem passF_length (drift n b : Int) : ∀ (f k : Nat) (cl : List Int) (t : St), (passF drift n b f k cl t).1.length = cl.length
  | 0, _, _, _ => rfl
  | f + 1, k, cl, t => by
    unfold passF
    split
    · simp
    · rw [passF_length drift n b f]
      simp
theorem clocks_length (o : StepD) (h : Sh) (t : St) : (stepF o h t).1.clocks.length = h.clocks.length := by
  by_cases k2 : o.kind = 2
  · unfold stepF
    rw [if_neg (by omega), if_neg (by omega), if_pos k2]
    exact passF_length ..
  · rw [clocks_step k2]

/-- A play with time in it, ahead of step i. -/
structure Play (script : List StepD) (c : Conf) (i : Nat) (h : Sh) (t : St) : Prop where
  kin : Kin True script i h t
  siz : Siz i h
  ag : Agree h t
  c : t.c = c

theorem Play.ok {script : List StepD} {c : Conf} {i : Nat} (p : Play script c i h t) (S : Shop n0 own w bs b t h) (hi : i ≤ 10000000000) {o : StepD} (ha : I64 o.a) (hb : I64 o.b) : StepOK o h t where
  a := ha
  b := hb
  siz := ⟨i, p.siz, hi⟩
  few := S.fewOf p.kin.mid.four
  pres := (p.kin.mid.last _).2
  clk := fun j hj => by
    by_cases e : j = 0
    · rw [e, p.ag.zero]; decide
    · have hl := p.ag.len
      rw [p.ag.is j (by omega) (by omega)]
      exact S.clkOf (by omega)
  len := p.ag.len

theorem Play.step {script : List StepD} {c : Conf} {i : Nat} (p : Play script c i h t) (hc : ConfOK c) {o : StepD} (ho : script[i]? = some o) (hov : overB (stepF o h t).1 = false) :
    AnsAll script c.budget ((stepF o h t).1.now - c.budget) (stepF o h t).1 (stepF o h t).2.answers ∧ Siz (i + 1) (stepF o h t).1 ∧ (stepF o h t).2.c = c ∧
    Play script c (i + 1) { (stepF o h t).1 with opn := shut (stepF o h t).1.opn (stepF o h t).2.answers } { (stepF o h t).2 with answers := [] } := by
  have hcc : (stepF o h t).2.c = c := by rw [c_step, p.c]
  have hm : Mid True script (i + 1) (stepF o h t).1 (stepF o h t).2 ∧ Agree (stepF o h t).1 (stepF o h t).2 := by
    by_cases k2 : o.kind = 2
    · exact p.kin.pass p.ag (by rw [p.c]; exact hc.drift) ho k2 (by rw [p.c]; exact hc.len.1) hov
    · exact ⟨p.kin.step ho k2 (by rw [p.c]; exact hc.len.1), p.ag.step k2⟩
  have ha := hm.1.answersTimed
  exact ⟨by rw [← hcc]; exact ha.1, p.siz.step o t, hcc, ⟨ha.2, (p.siz.step o t).shut _, ⟨hm.2.len, hm.2.is, hm.2.zero⟩, hcc⟩⟩

theorem Play.start (script : List StepD) {c : Conf} (hc : ConfOK c) : Play script c 0 (sh0 c) (Tier.new c) := by
  refine ⟨Kin.start True script hc, ⟨Nat.le_refl _, Nat.le_refl _, ⟨Int.le_refl _, by show (0 : Int) ≤ _; omega⟩, by intro r hr; cases hr⟩, ⟨by show (List.replicate _ _).length = _; rw [List.length_replicate]; rfl, fun k h0 h1 => ?_, ?_⟩, rfl⟩
  · have h1 : k < c.parents.length := h1
    show (List.replicate c.parents.length (0 : Int)).getD k 0 = ((List.replicate c.parents.length Tier.noCac).getD k Tier.noCac).clock
    rw [List.getD_eq_getElem?_getD, List.getD_eq_getElem?_getD, List.getElem?_replicate, List.getElem?_replicate, if_pos h1, if_pos h1]; rfl
  · show (List.replicate c.parents.length (0 : Int)).getD 0 0 = 0
    rw [List.getD_eq_getElem?_getD, List.getElem?_replicate]
    split <;> rfl

/-- What holds around a budgeted run's loop. -/
structure BLoop (n0 : Nat) (own0 : Own) (w0 wr : World) (bs : Nat) (script : List StepD) (c : Conf) (a : Option Addr) (j : Nat) : Prop where
  is : ∃ own t h, Shop n0 own wr bs (500000 * j) t h ∧ KS own0 own w0 wr ∧ Play script c j h t
  scr : ScriptAt wr a script
  size : n0 ≤ wr.heap.size

set_option maxHeartbeats 8000000 in
theorem budgeted_of (a : Option Addr) (cap : Nat) (zs : List Int) (dr bu en wa : Int) (sa : Option Addr) (scap : Nat) (script : List StepD) (n0 : Nat) (w : World) (hK : KeyTab w) (hn : n0 ≤ w.heap.size) (hs : SliceAt w a zs)
    (hsc : ScriptAt w sa script) (hsl : script.length ≤ 1048576) (hsn : 0 < script.length → ∀ ad, sa = some ad → ad.block < n0)
    (KO : ∀ w1, KeyTab w1 → n0 ≤ w1.heap.size → SliceAt w1 a zs → Calls Tryd.prog 16 #[.agg #[.slice a zs.length cap, .int .i64 dr, .int .i64 bu, .int .i64 en, .int .i64 wa]] w1 fun r w' => ∃ bs own', r = .returned (.pointer (some ⟨bs, 0, none⟩)) ∧ Shop n0 own' w' bs 0 (Tier.new (confD zs dr bu en wa)) (sh0 (confD zs dr bu en wa)) ∧ Turn nothing w1 w') :
    Calls Tryd.prog 7 #[.agg #[.slice a zs.length cap, .int .i64 dr, .int .i64 bu, .int .i64 en, .int .i64 wa], .slice sa script.length scap] w fun r w' => r = .returned (.bool true) ∧ Turn (fun k => n0 ≤ k) w w' := by
  have HOK : Hid (ConfOK (confD zs dr bu en wa)) := confB_parts (confD_right zs dr bu en wa)
  generalize confD zs dr bu en wa = c at *
  have KO := hide KO
  have HK := hide hK
  have HSL := hide hs
  have HSC := hide hsc
  have HSN := hide hsn
  have HLEN := hide hsl
  generalize hN : script.length = N at *
  clear hK hs hsc hsn
  go_enter Tryd.func7, Tryd.ntmps7
  go_wp2_with fail
  generalize hW : World.alloc _ _ = W0
  have T0 : Turn nothing w W0 := by rw [← hW]; exact Turn.alloc _ _ _
  clear hW
  refine (unhide KO W0 ((unhide HK).turn T0) (Nat.le_trans hn T0.size) (fun hp => by
    obtain ⟨b, off, e, hr⟩ := unhide HSL hp
    exact ⟨b, off, e, fun j hj => T0.cell (hr j hj) id⟩)).mono ?_
  rintro e w1 ⟨bs, own1, rfl, S1, T1⟩
  have HR0 : Hid (BLoop n0 own1 w1 w1 bs script c sa 0) :=
    ⟨⟨own1, _, _, S1, KS.refl _ _, Play.start script (unhide HOK)⟩, ((unhide HSC).turn T0 (fun _ _ h => h)).turn T1 (fun _ _ h => h), Nat.le_trans hn (Nat.le_trans T0.size T1.size)⟩
  have HFR : Hid (∀ own2 w2, KS own1 own2 w1 w2 → Turn (fun k => n0 ≤ k) w w2) := fun _ _ K =>
    ((T0.step_turn T1 (fun _ _ h => h)).mono (fun _ _ h => h.elim)).step_turn K.turn (fun k _ h => S1.fresh k h)
  clear S1 T1 T0 KO HK HSL HSC hn
  go_wp2
  go_loopw [6, 7, 8, 9] (fun i _ _ _ wr => ∃ j : Nat, j ≤ N ∧ i = .int .i64 (j : Int) ∧ Hid (BLoop n0 own1 w1 wr bs script c sa j)) (fun i _ _ _ _ => N - (intOf i).toNat)
  case atStart => exact ⟨0, Nat.zero_le _, rfl, HR0⟩
  case round =>
    clear HR0
    obtain ⟨j, jn, rfl, HR⟩ := hrel
    have hjw : IntKind.i64.wrap ((j : Int) + 1) = (j : Int) + 1 := by rw [IntKind.wrap_i64]; have := unhide HLEN; omega
    by_cases hlt : j < N
    · obtain ⟨o, ho⟩ : ∃ o, script[j]? = some o := ⟨_, List.getElem?_eq_getElem (by omega)⟩
      obtain ⟨sb, off, rfl, c0, c1, c2, c3⟩ := (unhide HR).scr.at_ j o ho
      obtain ⟨ha, hb, _, _⟩ := (unhide HR).scr.ok o (List.mem_of_getElem? ho)
      obtain ⟨own2, t, h, S, K, P⟩ := (unhide HR).is
      have hsz := (unhide HR).size
      have KST := hide (step_any S hsz (by have := unhide HLEN; omega) o (P.ok S (by have := unhide HLEN; omega) ha hb))
      have HP := hide P
      have HKS := hide K
      have HSZ := hide hsz
      have HSR := hide (unhide HR).scr
      have hfree : Hid (own2 sb = none) := S.free (unhide HSN (by omega) _ rfl)
      have i0 : (0 : Int) ≤ (j : Int) := by omega
      have i1 : (j : Int) < (N : Int) := by omega
      unfold stepV at KST
      clear HR S K P hsz ha hb
      go_wp2_with fail
      refine (unhide KST).mono ?_
      rintro e w2 ⟨rfl, own3, S3, K3⟩
      have HS3 := hide S3
      have HK3 := hide K3
      have KOV := hide (show Calls Tryd.prog 25 #[.pointer (some ⟨bs, 0, none⟩)] w2 _ from by
        obtain ⟨q, _, hq⟩ := S3.is
        exact over_any hq (by
          have h0 := (unhide HP).ag.len
          rw [(unhide HP).c] at h0
          have h1 := (unhide HOK).len
          rw [clocks_length]
          omega))
      clear S3 K3 KST c0 c1 c2 c3
      go_wp2_with fail
      refine (unhide KOV).mono ?_
      rintro e w3 ⟨rfl, rfl⟩
      clear KOV
      by_cases hov : overB (stepF o h t).1 = true
      · rw [hov]
        go_wp2
        go_ret
        exact ⟨rfl, unhide HFR _ _ ((unhide HKS).trans (unhide HK3))⟩
      · have hov : overB (stepF o h t).1 = false := by simpa using hov
        rw [hov]
        have hst := hide ((unhide HP).step (unhide HOK) ho hov)
        have HSR3 : Hid (ScriptAt w3 (some ⟨sb, off, none⟩) script) := (unhide HSR).ks (unhide HK3) (fun ad e => by cases e; exact unhide hfree)
        have hsz3 : Hid (n0 ≤ w3.heap.size) := Nat.le_trans (unhide HSZ) (unhide HK3).turn.size
        have KAN := hide (answers_timed (unhide HS3) (unhide hsz3) (by have := unhide HLEN; omega) (some ⟨sb, off, none⟩) scap script (unhide HSR3) (by have := unhide HLEN; omega) (fun _ => unhide HSN (by omega)) (by have := (unhide hst).2.1.l; have := unhide HLEN; omega) (by have := (unhide hst).2.1.now; have := unhide HLEN; omega)
          (by rw [(unhide hst).2.2.1]; exact ⟨by have := (unhide HOK).budget; omega, by have := (unhide HOK).budget; omega⟩) (by rw [(unhide hst).2.2.1]; exact (unhide hst).1))
        rw [hN] at KAN
        clear HSR
        go_wp2_with fail
        refine (unhide KAN).mono ?_
        rintro e w4 ⟨rfl, own4, S4, K4⟩
        have HR' : Hid (BLoop n0 own1 w1 w4 bs script c (some ⟨sb, off, none⟩) (j + 1)) :=
          ⟨⟨own4, _, _, S4.mono (by omega), ((unhide HKS).trans (unhide HK3)).trans K4, (unhide hst).2.2.2⟩, (unhide HSR3).ks K4 (fun ad e => (unhide HS3).free (unhide HSN (by omega) ad e)), Nat.le_trans (unhide hsz3) K4.turn.size⟩
        clear S4 K4 KAN hst HS3 HK3 HKS HP hov HSR3 hsz3
        go_wp2
        go_roundw
        case rel => exact ⟨j + 1, by omega, by go_num, HR'⟩
        case measure => simp [intOf]; omega
    · obtain ⟨own2, t, h, S, K, P⟩ := (unhide HR).is
      have HE := hide (unhide HFR _ _ K)
      clear HR S K P
      go_wp2
      go_ret
      exact ⟨rfl, unhide HE⟩

end Go.Proofs.YtpdkojgepagbnaaDoor

namespace Go.Proofs.YtpdkojgepagbnaaDoor
set_option maxRecDepth 100000
open Go.RowKit
open Tier (Mes Ans Conf St Was)
attribute [local go_sem ↓] Go.wp_at_zero Go.wp_at_succ

variable {n0 : Nat} {own own' : Own} {w w' : World} {bs b : Nat} {t t' : St} {h h' : Sh}

/-- A play with any clocks, behind a step and ahead of its answers. -/
structure MidH (script : List StepD) (c : Conf) (i : Nat) (h : Sh) (t : St) : Prop where
  mid : Mid False script i h t
  siz : Siz i h
  len : h.clocks.length = c.parents.length
  zero : ∀ j, h.clocks.getD j 0 = 0
  c : t.c = c

/-- Ahead of step i. -/
structure PlayH (script : List StepD) (c : Conf) (i : Nat) (h : Sh) (t : St) : Prop extends MidH script c i h t where
  ans : t.answers = []

variable {script : List StepD} {c : Conf} {i : Nat}

theorem PlayH.kin (p : PlayH script c i h t) : Kin False script i h t := ⟨p.mid, p.ans⟩

theorem PlayH.ok (p : PlayH script c i h t) (S : Shop n0 own w bs b t h) (hi : i ≤ 10000000000) {o : StepD} (ha : I64 o.a) (hb : I64 o.b) : StepOK o h t where
  a := ha
  b := hb
  siz := ⟨i, p.siz, hi⟩
  few := S.fewOf p.mid.four
  pres := (p.mid.last _).2
  clk := fun j hj => by rw [p.zero j]; decide
  len := by rw [p.len, p.c]

theorem PlayH.tick (p : PlayH script c i h t) {n : Nat} (hn : n < c.parents.length) (r : Int) : PlayH script c i h (t.tick n (max (t.cac n).clock r)) :=
  have k := p.kin.anyTick (n := n) (by rw [p.c]; exact hn) r
  ⟨⟨k.mid, p.siz, p.len, p.zero, p.c⟩, k.ans⟩

theorem PlayH.step (p : PlayH script c i h t) (hc : ConfOK c) {o : StepD} (ho : script[i]? = some o) (k2 : o.kind ≠ 2) : MidH script c (i + 1) (stepF o h t).1 (stepF o h t).2 :=
  ⟨p.kin.step ho k2 (by rw [p.c]; exact hc.len.1), p.siz.step o t, by rw [clocks_step k2]; exact p.len, by rw [clocks_step k2]; exact p.zero, by rw [c_step]; exact p.c⟩

theorem PlayH.time (p : PlayH script c i h t) {o : StepD} (ho : script[i]? = some o) (k2 : o.kind = 2) : MidH script c (i + 1) { h with now := h.now + 1 } t :=
  ⟨p.kin.anyTime.mid.later ho (by omega), ⟨Nat.le_trans p.siz.l (by omega), Nat.le_trans p.siz.opn (by omega), (by have := p.siz.now; show 0 ≤ h.now + 1 ∧ h.now + 1 ≤ _; omega), fun r hr => by have := p.siz.ver r hr; omega⟩, p.len, p.zero, p.c⟩

theorem MidH.answers (m : MidH script c i h t) : AnsAll script t.c.budget 0 h t.answers ∧ PlayH script c i { h with opn := shut h.opn t.answers } { t with answers := [] } :=
  have ha := m.mid.answersAny
  ⟨ha.1, ⟨⟨ha.2.mid, m.siz.shut _, m.len, m.zero, m.c⟩, rfl⟩⟩

theorem PlayH.start (script : List StepD) {c : Conf} (hc : ConfOK c) : PlayH script c 0 (sh0 c) (Tier.new c) := by
  have p := Play.start script hc
  have k := Kin.start False script hc
  refine ⟨⟨k.mid, p.siz, p.ag.len, fun j => ?_, rfl⟩, k.ans⟩
  show (List.replicate c.parents.length (0 : Int)).getD j 0 = 0
  rw [List.getD_eq_getElem?_getD, List.getElem?_replicate]
  split <;> rfl

/-- What holds in an honest run's loop. -/
structure HAt (n0 : Nat) (own0 : Own) (w0 wr : World) (bs b : Nat) (script : List StepD) (a : Option Addr) (ka : Option Addr) (ks : List Int) (G : Sh → St → Prop) : Prop where
  is : ∃ own t h, Shop n0 own wr bs b t h ∧ KS own0 own w0 wr ∧ G h t
  scr : ScriptAt wr a script
  clk : SliceAt wr ka ks
  size : n0 ≤ wr.heap.size

theorem SliceAt.ks {a : Option Addr} {l : List Int} (hs : SliceAt w a l) (K : KS own own' w w') (hm : 0 < l.length → ∀ ad, a = some ad → own ad.block = none) : SliceAt w' a l := fun hp => by
  obtain ⟨b, off, e, hr⟩ := hs hp
  exact ⟨b, off, e, fun j hj => K.cell (hr j hj) (hm hp ⟨b, off, none⟩ e)⟩

set_option maxHeartbeats 8000000 in
theorem honest_of (a : Option Addr) (cap : Nat) (zs : List Int) (dr bu en wa : Int) (sa : Option Addr) (scap : Nat) (script : List StepD) (ka : Option Addr) (kcap : Nat) (ks : List Int) (n0 : Nat) (w : World) (hK : KeyTab w) (hn : n0 ≤ w.heap.size) (hs : SliceAt w a zs)
    (hsc : ScriptAt w sa script) (hsl : script.length ≤ 1048576) (hsn : 0 < script.length → ∀ ad, sa = some ad → ad.block < n0) (hks : SliceAt w ka ks) (hkn : 0 < ks.length → ∀ ad, ka = some ad → ad.block < n0) (hkl : ks.length ≤ 1000000000000)
    (KO : ∀ w1, KeyTab w1 → n0 ≤ w1.heap.size → SliceAt w1 a zs → Calls Tryd.prog 16 #[.agg #[.slice a zs.length cap, .int .i64 dr, .int .i64 bu, .int .i64 en, .int .i64 wa]] w1 fun r w' => ∃ bs own', r = .returned (.pointer (some ⟨bs, 0, none⟩)) ∧ Shop n0 own' w' bs 0 (Tier.new (confD zs dr bu en wa)) (sh0 (confD zs dr bu en wa)) ∧ Turn nothing w1 w') :
    Calls Tryd.prog 8 #[.agg #[.slice a zs.length cap, .int .i64 dr, .int .i64 bu, .int .i64 en, .int .i64 wa], .slice sa script.length scap, .slice ka ks.length kcap] w fun r w' => r = .returned (.bool true) ∧ Turn (fun k => n0 ≤ k) w w' := by
  have HOK : Hid (ConfOK (confD zs dr bu en wa)) := confB_parts (confD_right zs dr bu en wa)
  generalize confD zs dr bu en wa = c at *
  have KO := hide KO
  have HK := hide hK
  have HSL := hide hs
  have HSC := hide hsc
  have HSN := hide hsn
  have HCK := hide hks
  have HCN := hide hkn
  have HLEN := hide hsl
  have HKL := hide hkl
  generalize hN : script.length = N at *
  generalize hM : ks.length = M at *
  clear hK hs hsc hsn hks hkn hkl hsl
  go_enter Tryd.func8, Tryd.ntmps8
  go_wp2_with fail
  generalize hW : World.alloc _ _ = W0
  have T0 : Turn nothing w W0 := by rw [← hW]; exact Turn.alloc _ _ _
  clear hW
  refine (unhide KO W0 ((unhide HK).turn T0) (Nat.le_trans hn T0.size) (fun hp => by
    obtain ⟨b, off, e, hr⟩ := unhide HSL hp
    exact ⟨b, off, e, fun j hj => T0.cell (hr j hj) id⟩)).mono ?_
  rintro e w1 ⟨bs, own1, rfl, S1, T1⟩
  have HR0 : Hid (HAt n0 own1 w1 w1 bs (500010 * 0) script sa ka ks (PlayH script c 0)) :=
    ⟨⟨own1, _, _, S1, KS.refl _ _, PlayH.start script (unhide HOK)⟩, ((unhide HSC).turn T0 (fun _ _ h => h)).turn T1 (fun _ _ h => h), fun hp => by
      obtain ⟨b, off, e, hr⟩ := unhide HCK hp
      exact ⟨b, off, e, fun j hj => T1.cell (T0.cell (hr j hj) id) id⟩, Nat.le_trans hn (Nat.le_trans T0.size T1.size)⟩
  have HFR : Hid (∀ own2 w2, KS own1 own2 w1 w2 → Turn (fun k => n0 ≤ k) w w2) := fun _ _ K =>
    ((T0.step_turn T1 (fun _ _ h => h)).mono (fun _ _ h => h.elim)).step_turn K.turn (fun k _ h => S1.fresh k h)
  clear S1 T1 T0 KO HK HSL HSC HCK hn
  go_wp2
  go_loopw [8, 9, 10, 11] (fun i _ _ _ wr => ∃ j : Nat, j ≤ N ∧ i = .int .i64 (j : Int) ∧ Hid (HAt n0 own1 w1 wr bs (500010 * j) script sa ka ks (PlayH script c j))) (fun i _ _ _ _ => N - (intOf i).toNat)
  case atStart => exact ⟨0, Nat.zero_le _, rfl, HR0⟩
  case round =>
    clear HR0
    obtain ⟨j, jn, rfl, HR⟩ := hrel
    have hjw : IntKind.i64.wrap ((j : Int) + 1) = (j : Int) + 1 := by rw [IntKind.wrap_i64]; have := unhide HLEN; omega
    have i0 : (0 : Int) ≤ (j : Int) := by omega
    by_cases hlt : j < N
    · obtain ⟨o, ho⟩ : ∃ o, script[j]? = some o := ⟨_, List.getElem?_eq_getElem (by omega)⟩
      have i1 : (j : Int) < (N : Int) := by omega
      go_upto_if 25 with fail
      go_cut [] from 16 to 84 (fun wx => Hid (HAt n0 own1 w1 wx bs (500010 * j + 5) script sa ka ks (PlayH script c j)))
      case first =>
        by_cases hck : j < M
        · obtain ⟨v, hv⟩ : ∃ v, ks[j]? = some v := ⟨_, List.getElem?_eq_getElem (by omega)⟩
          have k1 : (j : Int) < (M : Int) := by omega
          obtain ⟨own2, t, h, S, K, P⟩ := (unhide HR).is
          obtain ⟨kb, koff, rfl, hrow⟩ := (unhide HR).clk (by omega)
          have x1 : wr.cell? ⟨kb, koff + j, none⟩ = some (.int .i64 v) := by
            rw [hrow j (by omega), List.getD_eq_getElem?_getD, hv]; rfl
          have hkf : own2 kb = none := S.free (unhide HCN (by omega) _ rfl)
          have hsz := (unhide HR).size
          obtain ⟨q, ht, hq⟩ := S.is
          have h26 := ht.len
          have x0 : wr.cell? ⟨bs, 0, none⟩ = some (.pointer (some ⟨q.bt, 0, none⟩)) := cell_of_cells hq.block 0
          have hca := cacheD_ok h26.1 (j : Int)
          have KC := hide (fun w' (T : Turn nothing wr w') => cache_any (hq.turn T) h26 (j : Int) (by have := unhide HLEN; unfold I64; omega))
          have KT : Hid (∃ (cd : Int) (t2 : St), ((0 ≤ v ∧ v ≤ 1099511627776 ∧ cd = 0) ∨ (¬ (0 ≤ v ∧ v ≤ 1099511627776) ∧ cd = 5)) ∧ t2.c = t.c ∧ PlayH script c j h t2 ∧ ∀ w', Turn nothing wr w' → Calls Tryd.prog 27 #[.pointer (some ⟨q.bt, 0, none⟩), .int .i64 ((cacheD t.c (j : Int) : Nat) : Int), .int .i64 v] w' fun e w'' => e = .returned (.int .i64 cd) ∧ Leaves own2 0 w' q.bt (500010 * j + 5) t2 w'') := by
            by_cases hin : 0 ≤ v ∧ v ≤ 1099511627776
            · exact ⟨0, t.tick (cacheD t.c (j : Int)) (max (t.cac (cacheD t.c (j : Int))).clock v), Or.inl ⟨hin.1, hin.2, rfl⟩, rfl, P.tick (by rw [← P.c]; exact hca.2) v, fun w' T => (ht.turn T).clock hca.1 hca.2 hin⟩
            · exact ⟨5, t, Or.inr ⟨hin, rfl⟩, rfl, P, fun w' T => (ht.turn T).clockTime hca.1 hca.2 hin⟩
          obtain ⟨cd, t2, hcd, hct, HP2, KT⟩ := unhide KT
          have KT := hide KT
          have HCD := hide hcd
          have HCT := hide hct
          have HP2 := hide HP2
          have HSP := hide S
          have HQ := hide hq
          have HKS := hide K
          have HSR := hide (unhide HR).scr
          have HCL := hide (unhide HR).clk
          have HSZ := hide hsz
          have hnk : ¬ Mine own2 0 kb := fun ⟨y, hy⟩ => by rw [hkf] at hy; cases hy
          have hnb : ¬ Mine own2 0 bs := fun ⟨y, hy⟩ => by rw [hq.blockO] at hy; cases hy
          generalize cacheD t.c (j : Int) = ca at *
          have hbs := hq.lt
          clear hcd hct S K P ht hq hca HR hrow hsz
          go_wp2
          have HS : ∀ w', Turn (Mine own2 0) wr w' → Turn (Mine own2 0) wr w' ∧ w'.cell? ⟨bs, 0, none⟩ = some (.pointer (some ⟨q.bt, 0, none⟩)) ∧ w'.cell? ⟨kb, koff + j, none⟩ = some (.int .i64 v) := fun w' T => ⟨T, T.cell x0 (by first | exact hnk | exact hnb), T.cell x1 (by first | exact hnk | exact hnb)⟩
          go_region_held3 (fun w' => Turn (Mine own2 0) wr w' ∧ w'.cell? ⟨bs, 0, none⟩ = some (.pointer (some ⟨q.bt, 0, none⟩)) ∧ w'.cell? ⟨kb, koff + j, none⟩ = some (.int .i64 v)) ((go_split_ands; apply HS; all_goals (repeat (first | with_reducible assumption | with_reducible exact Turn.refl _ _ | with_reducible apply Turn.step_alloc | with_reducible apply Turn.step_drew | ((with_reducible refine Turn.step_turn (N := nothing) ?_ (by assumption) ?_); rotate_left; · exact fun _ _ h => False.elim h) | ((with_reducible refine Turn.step_set ?_ ?_); rotate_left; · first | exact Or.inr rfl | exact Or.inr (Or.inl rfl) | exact Or.inl (by simp <;> omega)) | ((with_reducible refine Turn.step_turn ?_ (Turn.grown (by assumption)) ?_); rotate_left; · exact fun _ _ h => Or.inr h) | with_reducible apply There.drew | with_reducible apply There.set | ((with_reducible refine There.turn ?_ (by assumption) ?_); rotate_left; · exact id) | assumption)))) (first | (go_at_call 23; go_split_ands; refine (unhide KC _ (Turn.drew nothing wr)).mono ?_; rintro e w7 ⟨rfl, rfl⟩) | (go_at_call 27; go_split_ands; refine (unhide KT _ (Turn.drew nothing wr)).mono ?_; rintro e w8 ⟨rfl, own8, T8, S8⟩; have TF : Turn (Mine own2 0) wr w8 := (Turn.drew _ wr).step_turn S8.turn (fun _ _ h => h)))
          go_split_ands
          have y1 : w8.cell? ⟨kb, koff + j, none⟩ = some (.int .i64 v) := TF.cell x1 hnk
          have T19 := Turn.drew nothing wr
          obtain ⟨own9, S9, K9⟩ := ((unhide HSP).turn T19).leaves (b' := 500010 * j + 5) (Nat.le_trans (unhide HSZ) T19.size) ((unhide HQ).turn T19) ⟨own8, T8, S8⟩ (unhide HCT)
          have K19 := (KS.of_turn (own := own2) T19).trans K9
          have HE : Hid (HAt n0 own1 w1 w8 bs (500010 * j + 5) script sa (some ⟨kb, koff, none⟩) ks (PlayH script c j)) :=
            ⟨⟨own9, t2, h, S9, (unhide HKS).trans K19, unhide HP2⟩, (unhide HSR).ks K19 (fun ad e => (unhide HSP).free (unhide HSN (by omega) ad e)), (unhide HCL).ks K19 (fun hp ad e => (unhide HSP).free (unhide HCN (by omega) ad e)), Nat.le_trans (unhide HSZ) K19.turn.size⟩
          clear S8 T8 TF T19 S9 K9 K19 HSP HQ HP2 HSR HCL HKS x0 x1 KC KT HSZ
          rcases unhide HCD with ⟨h0, h1, e⟩ | ⟨hin, e⟩
          · subst e
            go_wp2
            go_meet
            exact HE
          · subst e
            by_cases h0 : 0 ≤ v
            · have h1 : ¬ v ≤ 1099511627776 := fun h => hin ⟨h0, h⟩
              go_wp2
              go_meet
              exact HE
            · go_wp2
              go_meet
              exact HE
        · have k1 : ¬ (j : Int) < (M : Int) := by omega
          have HE : Hid (HAt n0 own1 w1 wr bs (500010 * j + 5) script sa ka ks (PlayH script c j)) := by
            obtain ⟨⟨own2, t, h, S, K, P⟩, s, k, z⟩ := unhide HR
            exact ⟨⟨own2, t, h, S.mono (by omega), K, P⟩, s, k, z⟩
          clear HR
          go_wp2
          go_meet
          exact HE
      case rest =>
        rename World => V
        clear HR
        have HR := hcut
        clear hcut
        obtain ⟨sb, off, rfl, c0, c1, c2, c3⟩ := (unhide HR).scr.at_ j o ho
        obtain ⟨ha, hb, _, _⟩ := (unhide HR).scr.ok o (List.mem_of_getElem? ho)
        obtain ⟨own2, t, h, S, K, P⟩ := (unhide HR).is
        have HP := hide P
        have HKS := hide K
        have HSZ := hide (unhide HR).size
        have HSR := hide (unhide HR).scr
        have HCL := hide (unhide HR).clk
        have HSS := hide S
        have KST := hide (step_any S (unhide HSZ) (by have := unhide HLEN; omega) o (P.ok S (by have := unhide HLEN; omega) ha hb))
        unfold stepV at KST
        clear HR S K P ha hb
        go_upto_if 58 with fail
        go_cut [10] from 16 to 84 (fun g wx => g = .bool true ∧ Hid (HAt n0 own1 w1 wx bs (500010 * (j + 1)) script (some ⟨sb, off, none⟩) ka ks (MidH script c (j + 1))))
        case first =>
          by_cases k2 : o.kind = 2
          · obtain ⟨q, ht, hq⟩ := (unhide HSS).is
            have e6 : V.cell? ⟨bs, 6, none⟩ = some (.int .i64 h.now) := cell_of_cells hq.block 6
            have g6 : V.frozen? ⟨bs, 6, none⟩ = false := frozen_of_cells hq.block 6
            have hbs := hq.lt
            have hnw : IntKind.i64.wrap (h.now + 1) = h.now + 1 := by rw [IntKind.wrap_i64]; have := (unhide HP).siz.now; have := unhide HLEN; omega
            obtain ⟨Q1, S1⟩ := hq.passed (h.now + 1)
            have htop := ht.top
            have K1 : KS own2 own2 V (V.setCell ⟨bs, 6, none⟩ (.int .i64 (h.now + 1))) := KS.of_step S1
            have S2 := (unhide HSS).next (b' := 500010 * j + 5) K1 ⟨q, ht.step1 S1 (fun k hk => htop k (by simpa using hk)), Q1⟩ (unhide HSZ)
            have HE : Hid (HAt n0 own1 w1 (V.setCell ⟨bs, 6, none⟩ (.int .i64 (h.now + 1))) bs (500010 * (j + 1)) script (some ⟨sb, off, none⟩) ka ks (MidH script c (j + 1))) :=
              ⟨⟨own2, _, _, S2.mono (by omega), (unhide HKS).trans K1, (unhide HP).time ho k2⟩, (unhide HSR).ks K1 (fun ad e => (unhide HSS).free (unhide HSN (by omega) ad e)), (unhide HCL).ks K1 (fun hp ad e => (unhide HSS).free (unhide HCN (by omega) ad e)), Nat.le_trans (unhide HSZ) K1.turn.size⟩
            clear Q1 S1 K1 S2 ht hq htop KST HSS HKS HP HSR HCL HSZ
            go_wp2
            go_meet
            exact ⟨rfl, HE⟩
          · go_wp2_with fail
            refine (unhide KST).mono ?_
            rintro e w2 ⟨rfl, own3, S3, K3⟩
            have HE : Hid (HAt n0 own1 w1 w2 bs (500010 * (j + 1)) script (some ⟨sb, off, none⟩) ka ks (MidH script c (j + 1))) :=
              ⟨⟨own3, _, _, S3.mono (by omega), (unhide HKS).trans K3, (unhide HP).step (unhide HOK) ho k2⟩, (unhide HSR).ks K3 (fun ad e => (unhide HSS).free (unhide HSN (by omega) ad e)), (unhide HCL).ks K3 (fun hp ad e => (unhide HSS).free (unhide HCN (by omega) ad e)), Nat.le_trans (unhide HSZ) K3.turn.size⟩
            clear S3 K3 KST HSS HKS HP HSR HCL HSZ
            go_wp2
            go_meet
            exact ⟨rfl, HE⟩
        case rest =>
          clear KST HSS HKS HP HSR HCL HSZ c0 c1 c2 c3
          obtain ⟨rfl, HR⟩ := hcut
          clear own2 t h
          rename World => X
          obtain ⟨own2, t, h, S, K, P⟩ := (unhide HR).is
          obtain ⟨q, ht, hq⟩ := S.is
          have d11 : X.cell? ⟨bs, 11, none⟩ = some (.bool h.tired) := cell_of_cells hq.block 11
          have hbs := hq.lt
          have HSZ := hide (unhide HR).size
          have HSR := hide (unhide HR).scr
          have HCL := hide (unhide HR).clk
          have HKS := hide K
          have HSS := hide S
          have HST := hide P.answers
          have HSI := hide P.siz
          have hcc := hide P.c
          clear HR P ht hq S K
          cases hti : h.tired with
          | true =>
            rw [hti] at d11
            go_wp2
            go_ret
            exact ⟨rfl, unhide HFR _ _ (unhide HKS)⟩
          | false =>
            rw [hti] at d11
            have KAN := hide (answers_any (unhide HSS) (unhide HSZ) (by have := unhide HLEN; omega) (some ⟨sb, off, none⟩) scap script (unhide HSR) (by have := unhide HLEN; omega) (fun _ => unhide HSN (by omega)) (by have := (unhide HSI).l; have := unhide HLEN; omega) (by have := (unhide HSI).now; have := unhide HLEN; omega)
              (by rw [unhide hcc]; exact ⟨by have := (unhide HOK).budget; omega, by have := (unhide HOK).budget; omega⟩) (unhide HST).1)
            rw [hN] at KAN
            clear HSI hcc hti
            go_wp2_with fail
            refine (unhide KAN).mono ?_
            rintro e w4 ⟨rfl, own4, S4, K4⟩
            have HR' : Hid (HAt n0 own1 w1 w4 bs (500010 * (j + 1)) script (some ⟨sb, off, none⟩) ka ks (PlayH script c (j + 1))) :=
              ⟨⟨own4, _, _, S4, (unhide HKS).trans K4, (unhide HST).2⟩, (unhide HSR).ks K4 (fun ad e => (unhide HSS).free (unhide HSN (by omega) ad e)), (unhide HCL).ks K4 (fun hp ad e => (unhide HSS).free (unhide HCN (by omega) ad e)), Nat.le_trans (unhide HSZ) K4.turn.size⟩
            clear S4 K4 KAN HST HSS HKS HSR HCL HSZ d11
            go_wp2
            go_roundw
            case rel => exact ⟨j + 1, by omega, by go_num, HR'⟩
            case measure => simp [intOf]; omega
    · obtain ⟨own2, t, h, S, K, P⟩ := (unhide HR).is
      have HE := hide (unhide HFR _ _ K)
      clear HR S K P
      go_wp2
      go_ret
      exact ⟨rfl, unhide HE⟩

end Go.Proofs.YtpdkojgepagbnaaDoor
