/-
  A bounded run.
  A bounded run, from its arguments.
-/
import Derived.Test.YtpdkojgepagbnaaDoorJ39
import Derived.Test.YtpdkojgepagbnaaDoorJ38
import Derived.Test.YtpdkojgepagbnaaDoorJ43
import Derived.Test.YtpdkojgepagbnaaDoorJ40
namespace Go.Proofs.YtpdkojgepagbnaaDoor
set_option maxRecDepth 100000
open Go.RowKit
open Tier (Mes Ans Conf St Was)
attribute [local go_sem ↓] Go.wp_at_zero Go.wp_at_succ

variable {n0 : Nat} {own own' : Own} {w w' : World} {bs b : Nat} {t t' : St} {h h' : Sh} {script : List StepD} {c : Conf} {i : Nat}

/-- A play of one cache, in which nobody crashes, ahead of step i. -/
structure PlayB (script : List StepD) (c : Conf) (i : Nat) (h : Sh) (t : St) : Prop where
  play : Play script c i h t
  full : Full h t

theorem PlayB.skip (p : PlayB script c i h t) {o : StepD} (ho : script[i]? = some o) (k8 : o.kind = 8) : PlayB script c (i + 1) h t :=
  ⟨⟨⟨p.play.kin.mid.later ho (by omega), p.play.kin.ans⟩, p.play.siz.more, p.play.ag, p.play.c⟩, p.full⟩

theorem PlayB.step (p : PlayB script c i h t) (hc : ConfOK c) {o : StepD} (ho : script[i]? = some o) (k8 : o.kind ≠ 8) (hov : overB (stepF o h t).1 = false) :
    AnsAll script c.budget ((stepF o h t).1.now - c.budget) (stepF o h t).1 (stepF o h t).2.answers ∧ Siz (i + 1) (stepF o h t).1 ∧ (stepF o h t).2.c = c ∧
    PlayB script c (i + 1) { (stepF o h t).1 with opn := shut (stepF o h t).1.opn (stepF o h t).2.answers } { (stepF o h t).2 with answers := [] } := by
  obtain ⟨a, b, d, e⟩ := p.play.step hc ho hov
  exact ⟨a, b, d, e, (p.full.step p.play.kin.mid (by rw [p.play.c]; exact hc.len.1) (by rw [p.play.ag.len]; exact Nat.le_refl _) k8).answers⟩

theorem PlayB.start (script : List StepD) {c : Conf} (hc : ConfOK c) : PlayB script c 0 (sh0 c) (Tier.new c) :=
  ⟨Play.start script hc, fun id _ h => by simp [sh0] at h⟩

theorem PlayB.few (p : PlayB script c i h t) (hp : c.parents.length = 2) : ((h.opn.countP fun b => b : Nat) : Int) ≤ c.waiters := by
  have := p.play.kin.few p.full (by rw [p.play.c]; exact hp)
  rw [p.play.c] at this
  exact this

/-- What holds around a bounded run's loop. -/
structure DLoop (n0 : Nat) (own0 : Own) (w0 wr : World) (bs : Nat) (script : List StepD) (c : Conf) (a : Option Addr) (j : Nat) : Prop where
  is : ∃ own t h, Shop n0 own wr bs (500000 * j) t h ∧ KS own0 own w0 wr ∧ PlayB script c j h t
  scr : ScriptAt wr a script
  size : n0 ≤ wr.heap.size

theorem DLoop.turn {own0 : Own} {w0 wr wx : World} {a : Option Addr} {j : Nat} (d : DLoop n0 own0 w0 wr bs script c a j) (T : Turn nothing wr wx) : DLoop n0 own0 w0 wx bs script c a j := by
  obtain ⟨⟨own, t, h, S, K, P⟩, s, z⟩ := d
  exact ⟨⟨own, t, h, S.turn T, K.trans (KS.of_turn T), P⟩, s.turn T (fun _ _ h => h), Nat.le_trans z T.size⟩

/-- While the fetches are ended. -/
structure ELoop (n0 : Nat) (own0 : Own) (w0 wr : World) (bs b : Nat) (script : List StepD) (a : Option Addr) (t : St) (h : Sh) (k : Nat) : Prop where
  is : ∃ own, Shop n0 own wr bs (b + 5 * k) (endF k t) h ∧ KS own0 own w0 wr
  scr : ScriptAt wr a script
  size : n0 ≤ wr.heap.size

theorem ScriptAt.ks' {a : Option Addr} {l : List StepD} (hs : ScriptAt w a l) (K : KS own own' w w') (hm : 0 < l.length → ∀ ad, a = some ad → own ad.block = none) : ScriptAt w' a l := by
  by_cases hp : 0 < l.length
  · exact hs.ks K (hm hp)
  · obtain rfl : l = [] := List.eq_nil_of_length_eq_zero (by omega)
    exact ⟨fun j o h => by simp at h, fun o h => by (cases h)⟩

set_option maxHeartbeats 8000000 in
theorem bounded_of (a : Option Addr) (cap : Nat) (zs : List Int) (dr bu en wa : Int) (sa : Option Addr) (scap : Nat) (script : List StepD) (n0 : Nat) (w : World) (hK : KeyTab w) (hn : n0 ≤ w.heap.size)
    (hsc : ScriptAt w sa script) (hsl : script.length ≤ 1048576) (hsn : 0 < script.length → ∀ ad, sa = some ad → ad.block < n0)
    (KO : ∀ w1, KeyTab w1 → n0 ≤ w1.heap.size → Calls Tryd.prog 16 #[.agg #[.slice none 0 0, .int .i64 dr, .int .i64 bu, .int .i64 en, .int .i64 wa]] w1 fun r w' => ∃ bs own', r = .returned (.pointer (some ⟨bs, 0, none⟩)) ∧ Shop n0 own' w' bs 0 (Tier.new (confD [] dr bu en wa)) (sh0 (confD [] dr bu en wa)) ∧ Turn nothing w1 w') :
    Calls Tryd.prog 9 #[.agg #[.slice a zs.length cap, .int .i64 dr, .int .i64 bu, .int .i64 en, .int .i64 wa], .slice sa script.length scap] w fun r w' => r = .returned (.bool true) ∧ Turn (fun k => n0 ≤ k) w w' := by
  have HOK : Hid (ConfOK (confD [] dr bu en wa)) := confB_parts (confD_right [] dr bu en wa)
  have HP2 : Hid ((confD [] dr bu en wa).parents.length = 2) := rfl
  generalize confD [] dr bu en wa = c at *
  have KO := hide KO
  have HK := hide hK
  have HSC := hide hsc
  have HSN := hide hsn
  have HLEN := hide hsl
  generalize hN : script.length = N at *
  clear hK hsc hsn
  go_enter Tryd.func9, Tryd.ntmps9
  go_wp2_with fail
  generalize hW : World.alloc _ _ = W0
  have T0 : Turn nothing w W0 := by rw [← hW]; exact Turn.alloc _ _ _
  clear hW
  refine (unhide KO W0 ((unhide HK).turn T0) (Nat.le_trans hn T0.size)).mono ?_
  rintro e w1 ⟨bs, own1, rfl, S1, T1⟩
  have HR0 : Hid (DLoop n0 own1 w1 w1 bs script c sa 0) :=
    ⟨⟨own1, _, _, S1, KS.refl _ _, PlayB.start script (unhide HOK)⟩, ((unhide HSC).turn T0 (fun _ _ h => h)).turn T1 (fun _ _ h => h), Nat.le_trans hn (Nat.le_trans T0.size T1.size)⟩
  have HFR : Hid (∀ own2 w2, KS own1 own2 w1 w2 → Turn (fun k => n0 ≤ k) w w2) := fun _ _ K =>
    ((T0.step_turn T1 (fun _ _ h => h)).mono (fun _ _ h => h.elim)).step_turn K.turn (fun k _ h => S1.fresh k h)
  clear S1 T1 T0 KO HK HSC hn
  go_wp2
  go_loopw [6, 7, 8, 9, 10, 11, 12, 13, 14, 15] (fun i _ _ _ _ _ _ _ _ _ wr => ∃ j : Nat, j ≤ N ∧ i = .int .i64 (j : Int) ∧ Hid (DLoop n0 own1 w1 wr bs script c sa j)) (fun i _ _ _ _ _ _ _ _ _ _ => N - (intOf i).toNat)
  case atStart => exact ⟨0, Nat.zero_le _, rfl, HR0⟩
  case round =>
    clear HR0
    obtain ⟨j, jn, rfl, HR⟩ := hrel
    have hjw : IntKind.i64.wrap ((j : Int) + 1) = (j : Int) + 1 := by rw [IntKind.wrap_i64]; have := unhide HLEN; omega
    have i0 : (0 : Int) ≤ (j : Int) := by omega
    by_cases hlt : j < N
    · obtain ⟨o, ho⟩ : ∃ o, script[j]? = some o := ⟨_, List.getElem?_eq_getElem (by omega)⟩
      obtain ⟨sb, off, rfl, c0, c1, c2, c3⟩ := (unhide HR).scr.at_ j o ho
      obtain ⟨ha, hb, _, _⟩ := (unhide HR).scr.ok o (List.mem_of_getElem? ho)
      obtain ⟨own2, t, h, S, K, P⟩ := (unhide HR).is
      have hsz := (unhide HR).size
      have i1 : (j : Int) < (N : Int) := by omega
      by_cases k8 : o.kind = 8
      · have HR' : Hid (DLoop n0 own1 w1 wr bs script c (some ⟨sb, off, none⟩) (j + 1)) := ⟨⟨own2, t, h, S.mono (by omega), K, P.skip ho k8⟩, (unhide HR).scr, hsz⟩
        rw [k8] at c0
        clear HR S K P ha hb hsz k8
        go_wp2
        go_roundw
        case rel => exact ⟨j + 1, by omega, by go_num, HR'⟩
        case measure => simp [intOf]; omega
      · have KST := hide (step_any S hsz (by have := unhide HLEN; omega) o (P.play.ok S (by have := unhide HLEN; omega) ha hb))
        have HP := hide P
        have HKS := hide K
        have HSZ := hide hsz
        have HSR := hide (unhide HR).scr
        have hfree : Hid (own2 sb = none) := S.free (unhide HSN (by omega) _ rfl)
        unfold stepV at KST
        clear HR S K P hsz ha hb
        go_wp2_with fail
        refine (unhide KST).mono ?_
        rintro e w2 ⟨rfl, own3, S3, K3⟩
        have HS3 := hide S3
        have HK3 := hide K3
        have KOV := hide (show Calls Tryd.prog 25 #[.pointer (some ⟨bs, 0, none⟩)] w2 _ from by
          obtain ⟨q, _, hq⟩ := S3.is
          exact over_any hq (by
            have h0 := (unhide HP).play.ag.len
            rw [(unhide HP).play.c] at h0
            have h1 := (unhide HOK).len
            rw [clocks_length]
            omega))
        clear S3 K3 KST c0 c1 c2 c3
        go_wp2_with fail
        refine (unhide KOV).mono ?_
        rintro e w3 ⟨rfl, rfl⟩
        clear KOV
        by_cases hov : overB (stepF o h t).1 = true
        · rw [hov]
          go_wp2
          go_ret
          exact ⟨rfl, unhide HFR _ _ ((unhide HKS).trans (unhide HK3))⟩
        · have hov2 : overB (stepF o h t).1 = false := by simpa using hov
          rw [hov2]
          have hst := hide ((unhide HP).step (unhide HOK) ho k8 hov2)
          have HSR3 : Hid (ScriptAt w3 (some ⟨sb, off, none⟩) script) := (unhide HSR).ks (unhide HK3) (fun ad e => by cases e; exact unhide hfree)
          have hsz3 : Hid (n0 ≤ w3.heap.size) := Nat.le_trans (unhide HSZ) (unhide HK3).turn.size
          have KAN := hide (answers_timed (unhide HS3) (unhide hsz3) (by have := unhide HLEN; omega) (some ⟨sb, off, none⟩) scap script (unhide HSR3) (by have := unhide HLEN; omega) (fun _ => unhide HSN (by omega)) (by have := (unhide hst).2.1.l; have := unhide HLEN; omega) (by have := (unhide hst).2.1.now; have := unhide HLEN; omega)
            (by rw [(unhide hst).2.2.1]; exact ⟨by have := (unhide HOK).budget; omega, by have := (unhide HOK).budget; omega⟩) (by rw [(unhide hst).2.2.1]; exact (unhide hst).1))
          rw [hN] at KAN
          clear HSR
          go_wp2_with fail
          refine (unhide KAN).mono ?_
          rintro e w4 ⟨rfl, own4, S4, K4⟩
          have HR' : Hid (DLoop n0 own1 w1 w4 bs script c (some ⟨sb, off, none⟩) (j + 1)) :=
            ⟨⟨own4, _, _, S4.mono (by omega), ((unhide HKS).trans (unhide HK3)).trans K4, (unhide hst).2.2.2⟩, (unhide HSR3).ks K4 (fun ad e => (unhide HS3).free (unhide HSN (by omega) ad e)), Nat.le_trans (unhide hsz3) K4.turn.size⟩
          clear S4 K4 KAN hst HS3 HK3 HKS HP hov hov2 HSR3 hsz3 hfree
          clear own2 own3 own4 t h
          obtain ⟨own2, t, h, S, K, P⟩ := (unhide HR').is
          obtain ⟨q, ht, hq⟩ := S.is
          have hpc := P.play.c
          have hpar : 1 < t.c.parents.length := by rw [hpc, unhide HP2]; decide
          have KE := hide (ht.entries (by have := unhide HLEN; omega) (n := 1) (by decide) hpar)
          have f0 : w4.cell? ⟨bs, 0, none⟩ = some (.pointer (some ⟨q.bt, 0, none⟩)) := cell_of_cells hq.block 0
          have f4 : w4.cell? ⟨bs, 4, none⟩ = some (.int .i64 c.entries) := by rw [← hpc]; exact cell_of_cells hq.block 4
          have f5 : w4.cell? ⟨bs, 5, none⟩ = some (.int .i64 c.waiters) := by rw [← hpc]; exact cell_of_cells hq.block 5
          rw [hpc] at KE
          have HQ := hide hq
          have HFEW := hide (P.few (unhide HP2))
          have HOL : Hid (h.opn.length ≤ 1048576) := Nat.le_trans P.play.siz.opn (by have := unhide HLEN; omega)
          have hbs := hq.lt
          clear S K P ht hq hpc hpar
          go_wp2_with fail
          refine (unhide KE).mono ?_
          rintro e w5 ⟨v, L, rfl, T5, O5, hle, hnd⟩
          obtain ⟨va, vc, hv⟩ := row_form O5
          subst hv
          have HT5 := hide T5
          have HND := hide hnd
          have HLE := hide hle
          have g4 := T5.cell f4 id
          have g5 := T5.cell f5 id
          have hgt : ¬ c.entries < (L.length : Int) := by omega
          have HO := hide O5
          have hkc : Hid (∀ y x, L[y]? = some x → ∃ lb, va = some ⟨lb, 0, none⟩ ∧ w5.cell? ⟨lb, y * 5, none⟩ = some (.string x.key)) := fun y x hy => by
            have hyl := (List.getElem?_eq_some_iff.1 hy).1
            obtain ⟨_, ⟨_, h0⟩ | ⟨lb, cap', cur, hv, _⟩⟩ := id O5
            · omega
            · cases hv
              refine ⟨lb, rfl, ?_⟩
              rw [O5.cellAt (y * 5) (by omega)]
              exact flatten_get (L.map seeL) y 0 (seeL x) (m := 5) (by intro z hz; obtain ⟨r, _, rfl⟩ := List.mem_map.1 hz; rfl) (by simp [hy]) (by omega)
          have HL4 : Hid ((L.length : Int) ≤ 4) := by have := (unhide HOK).entries; show (L.length : Int) ≤ 4; omega
          have hlw : ∀ y : Nat, y < L.length → IntKind.i64.wrap ((y : Int) + 1) = (y : Int) + 1 := fun y hy => by have := unhide HL4; rw [IntKind.wrap_i64]; omega
          have HLW := hide hlw
          have Hne : Hid (∀ (y z : Nat) (a b : See), L[y]? = some a → L[z]? = some b → z < y → a.key ≠ b.key) := fun y z a b hy hz hzy e => by
            have hyl := (List.getElem?_eq_some_iff.1 hy).1
            have hzl := (List.getElem?_eq_some_iff.1 hz).1
            have h1 : (L.map See.key)[y]? = some a.key := by rw [List.getElem?_map, hy]; rfl
            have h2 : (L.map See.key)[z]? = some a.key := by rw [List.getElem?_map, hz, e]; rfl
            have := (List.getElem?_inj (l := L.map See.key) (i := z) (j := y) (by simpa using hzl) hnd).1 (h2.trans h1.symm)
            omega
          clear KE f0 f4 f5 T5 O5 hle hnd hlw HO HND
          generalize hM : L.length = M at *
          go_wp2
          go_loopw [12, 13] (fun a _ wx => ∃ y : Nat, y ≤ M ∧ a = .int .i64 (y : Int) ∧ Hid (Turn nothing w5 wx)) (fun a _ _ => M - (intOf a).toNat)
          case atStart => exact ⟨0, Nat.zero_le _, rfl, Turn.refl _ _⟩
          case round =>
            obtain ⟨y, yM, rfl, HTy⟩ := hrel
            by_cases hy : y < M
            · have hyw : IntKind.i64.wrap ((y : Int) + 1) = (y : Int) + 1 := unhide HLW y hy
              have y0 : (0 : Int) ≤ (y : Int) := by omega
              have y1 : (y : Int) < (M : Int) := by omega
              obtain ⟨xa, hxa⟩ : ∃ x, L[y]? = some x := ⟨_, List.getElem?_eq_getElem (by omega)⟩
              obtain ⟨lb, rfl, hca⟩ := unhide hkc y xa hxa
              go_wp2
              go_loopw [13] (fun b wx => ∃ z : Nat, z ≤ y ∧ b = .int .i64 (z : Int) ∧ Hid (Turn nothing w5 wx)) (fun b _ => y - (intOf b).toNat)
              case atStart => exact ⟨0, Nat.zero_le _, rfl, HTy⟩
              case round =>
                clear HTy
                obtain ⟨z, zy, rfl, HTz⟩ := hrel
                by_cases hz : z < y
                · have hzw : IntKind.i64.wrap ((z : Int) + 1) = (z : Int) + 1 := unhide HLW z (by omega)
                  have z0 : (0 : Int) ≤ (z : Int) := by omega
                  have z1 : (z : Int) < (M : Int) := by omega
                  obtain ⟨xb, hxb⟩ : ∃ x, L[z]? = some x := ⟨_, List.getElem?_eq_getElem (by omega)⟩
                  obtain ⟨lb2, e2, hcb⟩ := unhide hkc z xb hxb
                  cases e2
                  have hca2 := (unhide HTz).cell hca id
                  have hcb2 := (unhide HTz).cell hcb id
                  have hneq : (xa.key.toList == xb.key.toList) = false := by rw [bytes_same]; exact decide_eq_false (unhide Hne y z xa xb hxa hxb hz)
                  generalize xa.key = ka at *
                  generalize xb.key = kb at *
                  clear hca hcb hxa hxb
                  go_wp2
                  go_quiet (fail)
                  generalize hV : World.drewN wr _ = V
                  have HTV : Hid (Turn nothing w5 V) := by
                    show Turn nothing w5 V
                    rw [← hV]
                    exact (unhide HTz).step_turn (Turn.drewN _ _ _) (fun _ _ h => h)
                  clear hV hca2 hcb2 HTz

                  go_wp2
                  go_roundw
                  case rel => exact ⟨z + 1, by omega, by go_num, HTV⟩
                  case measure => simp [intOf]; omega
                · have hz2 : ¬ (z : Int) < (y : Int) := by omega
                  go_wp2
                  go_roundw
                  case rel => exact ⟨y + 1, by omega, by go_num, HTz⟩
                  case measure => simp [intOf]; omega
            · have hy2 : ¬ (y : Int) < (M : Int) := by omega
              have HQ2 := hide ((unhide HQ).turn (unhide HT5))
              obtain ⟨oa, oc, hov⟩ := row_form (unhide HQ2).opn.row
              rw [List.length_map] at hov
              have o10 : Hid (∀ wx, Turn nothing w5 wx → wx.cell? ⟨bs, 10, none⟩ = some (.slice oa h.opn.length oc) ∧ wx.cell? ⟨bs, 5, none⟩ = some (.int .i64 c.waiters)) := fun wx T => ⟨T.cell (by rw [← hov]; exact cell_of_cells (unhide HQ2).block 10) id, T.cell g5 id⟩
              have hoc : Hid (∀ y x, h.opn[y]? = some x → ∃ lb, oa = some ⟨lb, 0, none⟩ ∧ ∀ wx, Turn nothing w5 wx → wx.cell? ⟨lb, y, none⟩ = some (.bool x)) := fun y x hy => by
                obtain ⟨lb, lc, e, _, hb, hcell, _⟩ := (unhide HQ2).opn.atM (fun _ => rfl) hy
                rw [hov] at e
                cases e
                have := hcell 0 (by omega)
                rw [Nat.mul_one, Nat.add_zero] at this
                exact ⟨lb, rfl, fun wx T => T.cell this id⟩
              generalize hCP : h.opn = op at *
              have HTK : Hid (op.take op.length = op) := List.take_length
              generalize hOL : op.length = K at *
              have hb5 : bs < w5.heap.size := (unhide HQ2).lt
              clear HQ2 HQ hov g4 g5
              go_wp2
              go_loopw [14, 15] (fun cn k wx => ∃ (z : Nat) (m : Nat), z ≤ K ∧ m ≤ z ∧ k = .int .i64 (z : Int) ∧ cn = .int .i64 (m : Int) ∧ Hid (m = (op.take z).countP fun b => b) ∧ Hid (Turn nothing w5 wx)) (fun _ k _ => K - (intOf k).toNat)
              case atStart => exact ⟨0, 0, Nat.zero_le _, Nat.le_refl _, rfl, rfl, rfl, HTy⟩
              case round =>
                clear HTy
                obtain ⟨z, m, zK, mz, rfl, rfl, HM, HTz⟩ := hrel
                obtain ⟨p10, p5⟩ := unhide o10 _ (unhide HTz)
                by_cases hz : z < K
                · have z0 : (0 : Int) ≤ (z : Int) := by omega
                  have z1 : (z : Int) < (K : Int) := by omega
                  have hzw : IntKind.i64.wrap ((z : Int) + 1) = (z : Int) + 1 := by have := unhide HOL; rw [IntKind.wrap_i64]; omega
                  have hmw : IntKind.i64.wrap ((m : Int) + 1) = (m : Int) + 1 := by have := unhide HOL; rw [IntKind.wrap_i64]; omega
                  obtain ⟨x, hx⟩ : ∃ x, op[z]? = some x := ⟨_, List.getElem?_eq_getElem (by omega)⟩
                  obtain ⟨lb, rfl, hcz⟩ := unhide hoc z x hx
                  have pz := hcz _ (unhide HTz)
                  cases x with
                  | true =>
                    have HM' : Hid (m + 1 = (op.take (z + 1)).countP fun b => b) := by
                      show _ = _
                      rw [List.take_add_one, hx, List.countP_append, ← unhide HM]; rfl
                    clear hcz HM
                    go_wp2
                    go_roundw
                    case rel => exact ⟨z + 1, m + 1, by omega, by omega, by go_num, by go_num, HM', HTz⟩
                    case measure => simp [intOf]; omega
                  | false =>
                    have HM' : Hid (m = (op.take (z + 1)).countP fun b => b) := by
                      show _ = _
                      rw [List.take_add_one, hx, List.countP_append, ← unhide HM]; rfl
                    clear hcz HM
                    go_wp2
                    go_roundw
                    case rel => exact ⟨z + 1, m, by omega, by omega, by go_num, rfl, HM', HTz⟩
                    case measure => simp [intOf]; omega
                · have z1 : ¬ (z : Int) < (K : Int) := by omega
                  have hmle : ¬ c.waiters < (m : Int) := by
                    have h1 := unhide HFEW
                    have h2 := unhide HM
                    rw [show z = K by omega, unhide HTK] at h2
                    omega
                  have HE : Hid (DLoop n0 own1 w1 wr bs script c (some ⟨sb, off, none⟩) (j + 1)) := (unhide HR').turn ((unhide HT5).step_turn (unhide HTz) (fun _ _ h => h))
                  clear HM HTz HR'
                  go_wp2
                  go_roundw
                  case rel => exact ⟨j + 1, by omega, by go_num, HE⟩
                  case measure => simp [intOf]; omega
    · have e : j = N := by omega
      subst e
      clear hlt
      obtain ⟨own2, t, h, S, K, P⟩ := (unhide HR).is
      have HQ0 : Hid (ELoop n0 own1 w1 wr bs (500000 * j) script sa t h 0) := ⟨⟨own2, S, K⟩, (unhide HR).scr, (unhide HR).size⟩
      have HP := hide P
      have hpc : t.c = c := P.play.c
      have HPAR : Hid (t.c.parents.length = 2) := by show t.c.parents.length = 2; rw [hpc]; exact unhide HP2
      have HBUD : Hid (0 ≤ t.c.budget ∧ t.c.budget ≤ 1000000) := by show _ ∧ _; rw [hpc]; have := (unhide HOK).budget; omega
      clear HR S K P hpc
      clear own2
      go_wp2
      go_loopw [16, 17] (fun i _ wx => ∃ k : Nat, k ≤ 4 ∧ i = .int .i64 (k : Int) ∧ Hid (ELoop n0 own1 w1 wx bs (500000 * j) script sa t h k)) (fun i _ _ => 4 - (intOf i).toNat)
      case atStart => exact ⟨0, Nat.zero_le _, rfl, HQ0⟩
      case round =>
        clear HQ0
        obtain ⟨k, k4, rfl, HR⟩ := hrel
        by_cases hk : k < 4
        · obtain ⟨own2, S, K⟩ := (unhide HR).is
          obtain ⟨q, ht, hq⟩ := S.is
          have hkw : IntKind.i64.wrap ((k : Int) + 1) = (k : Int) + 1 := by rw [IntKind.wrap_i64]; omega
          have hk0 : (k : Int) < 4 := by omega
          have hpar : 1 < (endF k t).c.parents.length := by rw [c_end, unhide HPAR]; decide
          have KK := hide (fun w' => keyOf_any (k : Int) w' (by unfold I64; omega))
          have KT := hide (fun w' (T : Turn nothing wr w') => (ht.turn T).timeout (S.keys.turn T) (by have := unhide HLEN; omega) (n := 1) (by decide) hpar (keyD_ok (k : Int)))
          have HTE : Hid ((endF k t).timeoutE 1 (keyD (k : Int)) = 0 ∨ (endF k t).timeoutE 1 (keyD (k : Int)) = 8) := by
            show _ = _ ∨ _ = _
            unfold Tier.St.timeoutE
            split
            · exact Or.inl rfl
            · exact Or.inr rfl
          generalize (endF k t).timeoutE 1 (keyD (k : Int)) = te at *
          have HEN : Hid ((endF k t).timeout 1 (keyD (k : Int)) = endF (k + 1) t) := rfl
          have HCT : Hid (((endF k t).timeout 1 (keyD (k : Int))).c = (endF k t).c) := c_timeout ..
          generalize (endF k t).timeout 1 (keyD (k : Int)) = t2 at *
          generalize keyD (k : Int) = kb at *
          have HSP := hide S
          have HQ := hide hq
          have HKS := hide K
          have HSR := hide (unhide HR).scr
          have HSZ := hide (unhide HR).size
          have x0 : wr.cell? ⟨bs, 0, none⟩ = some (.pointer (some ⟨q.bt, 0, none⟩)) := cell_of_cells hq.block 0
          have hnb : ¬ Mine own2 0 bs := fun ⟨y, hy⟩ => by rw [hq.blockO] at hy; cases hy
          have hbs := hq.lt
          clear S ht hq K HR hpar
          go_wp2
          have HS : ∀ w', Turn (Mine own2 0) wr w' → Turn (Mine own2 0) wr w' ∧ w'.cell? ⟨bs, 0, none⟩ = some (.pointer (some ⟨q.bt, 0, none⟩)) := fun w' T => ⟨T, T.cell x0 (hnb)⟩
          go_region_held3 (fun w' => Turn (Mine own2 0) wr w' ∧ w'.cell? ⟨bs, 0, none⟩ = some (.pointer (some ⟨q.bt, 0, none⟩))) ((go_split_ands; apply HS; all_goals (repeat (first | with_reducible assumption | with_reducible exact Turn.refl _ _ | with_reducible apply Turn.step_alloc | with_reducible apply Turn.step_drew | ((with_reducible refine Turn.step_turn (N := nothing) ?_ (by assumption) ?_); rotate_left; · exact fun _ _ h => False.elim h) | ((with_reducible refine Turn.step_set ?_ ?_); rotate_left; · first | exact Or.inr rfl | exact Or.inr (Or.inl rfl) | exact Or.inl (by simp <;> omega)) | ((with_reducible refine Turn.step_turn ?_ (Turn.grown (by assumption)) ?_); rotate_left; · exact fun _ _ h => Or.inr h) | with_reducible apply There.drew | with_reducible apply There.set | ((with_reducible refine There.turn ?_ (by assumption) ?_); rotate_left; · exact id) | assumption)))) (first | (go_at_call 21; go_split_ands; refine (unhide KK _).mono ?_; rintro e w9 ⟨rfl, T9⟩) | (go_at_call 29; go_split_ands; refine (unhide KT _ ((Turn.drew nothing wr).step_turn T9 (fun _ _ h => h))).mono ?_; rintro e w8 ⟨rfl, own8, T8, S8⟩; have TF : Turn (Mine own2 0) wr w8 := ((Turn.drew _ wr).step_turn T9 (fun _ _ h => h.elim)).step_turn S8.turn (fun _ _ h => h)))
          go_split_ands
          have T19 := (Turn.drew nothing wr).step_turn T9 (fun _ _ h => h)
          obtain ⟨own9, S9, K9⟩ := ((unhide HSP).turn T19).leaves (b' := 500000 * j + 5 * k + 5) (Nat.le_trans (unhide HSZ) T19.size) ((unhide HQ).turn T19) ⟨own8, T8, S8⟩ (unhide HCT)
          have K19 := (KS.of_turn (own := own2) T19).trans K9
          have HE : Hid (ELoop n0 own1 w1 w8 bs (500000 * j) script sa t h (k + 1)) :=
            ⟨⟨own9, by rw [← unhide HEN]; exact S9.mono (by omega), (unhide HKS).trans K19⟩, (unhide HSR).ks' K19 (fun hp ad e => (unhide HSP).free (unhide HSN (by omega) ad e)), Nat.le_trans (unhide HSZ) K19.turn.size⟩
          clear S8 T8 TF T19 S9 K9 K19 T9 HSP HQ HKS HSR HSZ HCT KK KT x0
          rcases unhide HTE with e | e
          · subst e
            go_wp2
            go_roundw
            case rel => exact ⟨k + 1, by omega, by go_num, HE⟩
            case measure => simp [intOf]; omega
          · subst e
            go_wp2
            go_roundw
            case rel => exact ⟨k + 1, by omega, by go_num, HE⟩
            case measure => simp [intOf]; omega
        · have hk0 : ¬ (k : Int) < 4 := by omega
          obtain rfl : k = 4 := by omega
          obtain ⟨own2, S, K⟩ := (unhide HR).is
          have hmid := (unhide HP).play.kin.mid
          have hend := Mid.ends (unhide HPAR) hmid (unhide HP).full 4
          have hans := hend.1.answersTimed
          have hcend : (endF 4 t).c = t.c := c_end 4 t
          have hshut := fun y => hmid.ended (unhide HP).full (unhide HPAR) y
          have HSI := hide (unhide HP).play.siz
          have KAN := hide (answers_timed S (unhide HR).size (by have := unhide HLEN; omega) sa scap script (unhide HR).scr (by have := unhide HLEN; omega) (by rw [hN]; exact unhide HSN) (by have := (unhide HSI).l; have := unhide HLEN; omega) (by have := (unhide HSI).now; have := unhide HLEN; omega)
            (by rw [hcend]; exact unhide HBUD) hans.1)
          rw [hN] at KAN
          have HSH := hide hshut
          have HKS := hide K
          have HOL : Hid (h.opn.length ≤ 1048576) := Nat.le_trans (unhide HSI).opn (by have := unhide HLEN; omega)
          have HLS : Hid ((shut h.opn (endF 4 t).answers).length = h.opn.length) := shut_length ..
          clear S K HR hmid hend hans hshut HSI hcend
          go_wp2_with fail
          refine (unhide KAN).mono ?_
          rintro e w4 ⟨rfl, own4, S4, K4⟩
          obtain ⟨q, ht, hq⟩ := S4.is
          have HE := hide (unhide HFR _ _ ((unhide HKS).trans K4))
          obtain ⟨oa, oc, hov⟩ := row_form hq.opn.row
          rw [List.length_map] at hov
          have o10 : w4.cell? ⟨bs, 10, none⟩ = some q.ov := cell_of_cells hq.block 10
          rw [hov] at o10
          have hoc : Hid (∀ (y : Nat) (x : Bool), (shut h.opn (endF 4 t).answers)[y]? = some x → ∃ lb, oa = some ⟨lb, 0, none⟩ ∧ w4.cell? ⟨lb, y, none⟩ = some (.bool x)) := fun y x hy => by
            obtain ⟨lb, lc, e, _, hb, hcell, _⟩ := hq.opn.atM (fun _ => rfl) hy
            rw [hov] at e
            cases e
            have := hcell 0 (by omega)
            rw [Nat.mul_one, Nat.add_zero] at this
            exact ⟨lb, rfl, this⟩
          have hbs := hq.lt
          dsimp only at o10
          generalize shut h.opn (endF 4 t).answers = op at *
          clear S4 K4 ht hq hov KAN HKS
          generalize hOL : op.length = M at *
          go_wp2
          go_loopw [18, 19] (fun ok i wx => ∃ z : Nat, z ≤ M ∧ ok = .bool true ∧ i = .int .i64 (z : Int) ∧ Hid (wx = w4)) (fun _ i _ => M - (intOf i).toNat)
          case atStart => exact ⟨0, Nat.zero_le _, rfl, rfl, rfl⟩
          case round =>
            obtain ⟨z, zM, rfl, rfl, HZ⟩ := hrel
            have hzz := unhide HZ
            subst hzz
            by_cases hz : z < M
            · have z0 : (0 : Int) ≤ (z : Int) := by omega
              have z1 : (z : Int) < (M : Int) := by omega
              have hzw : IntKind.i64.wrap ((z : Int) + 1) = (z : Int) + 1 := by have := unhide HOL; have := unhide HLS; rw [IntKind.wrap_i64]; omega
              obtain ⟨x, hx⟩ : ∃ x, op[z]? = some x := ⟨_, List.getElem?_eq_getElem (by omega)⟩
              obtain rfl : x = false := by
                cases x with
                | false => rfl
                | true => exact absurd hx (unhide HSH z)
              obtain ⟨lb, rfl, pz⟩ := unhide hoc z false hx
              clear HZ hx
              go_wp2
              go_roundw
              case rel => exact ⟨z + 1, by omega, rfl, by go_num, trivial⟩
              case measure => simp [intOf]; omega
            · have z1 : ¬ (z : Int) < (M : Int) := by omega
              clear HZ
              go_wp2
              go_ret
              exact ⟨rfl, unhide HE⟩

end Go.Proofs.YtpdkojgepagbnaaDoor

namespace Go.Proofs.YtpdkojgepagbnaaDoor
set_option maxRecDepth 100000
open Go.RowKit

theorem bounded_any (a : Option Addr) (cap : Nat) (zs : List Int) (dr bu en wa : Int) (sa : Option Addr) (scap : Nat) (script : List StepD) (w : World) (hK : KeyTab w) (hi : I64 dr ∧ I64 bu ∧ I64 en ∧ I64 wa)
    (hsc : ScriptAt w sa script) (hsl : script.length ≤ 1048576) :
    Calls Tryd.prog 9 #[.agg #[.slice a zs.length cap, .int .i64 dr, .int .i64 bu, .int .i64 en, .int .i64 wa], .slice sa script.length scap] w fun r w' => r = .returned (.bool true) ∧ Below w.heap.size w w' :=
  (bounded_of a cap zs dr bu en wa sa scap script w.heap.size w hK (Nat.le_refl _) hsc hsl (script_lt hsc)
    (fun w1 h1 h2 => opened_any none 0 [] dr bu en wa w.heap.size (cell_lt hK.1) (Nat.zero_le _) (fun z hz => by (cases hz)) hi w1 h1 h2 (fun hp => by simp at hp))).mono fun _ _ ⟨e, T⟩ => ⟨e, below_of T⟩

end Go.Proofs.YtpdkojgepagbnaaDoor
