/-
  Every step of a script.
-/
import Derived.Test.YtpdkojgepagbnaaDoorJ37
namespace Go.Proofs.YtpdkojgepagbnaaDoor
set_option maxRecDepth 100000
open Go.RowKit
open Tier (Mes Ans Conf St Was)

variable {n0 : Nat} {own own' : Own} {w w' : World} {bs b : Nat} {t t' : St} {h h' : Sh}

/-- What a step wants of the play so far. -/
structure StepOK (o : StepD) (h : Sh) (t : St) : Prop where
  a : I64 o.a
  b : I64 o.b
  siz : ∃ n, Siz n h ∧ n ≤ 10000000000
  few : t.items.length < 16
  pres : (lastOf h.l (keyD o.a)).pres = (t.item (keyD o.a)).pres
  clk : ∀ j, j < h.clocks.length → 0 ≤ h.clocks.getD j 0 ∧ h.clocks.getD j 0 ≤ 1099511627776
  len : h.clocks.length = t.c.parents.length

theorem step_any (S : Shop n0 own w bs b t h) (hn : n0 ≤ w.heap.size) (hb : b + 500010 ≤ 1000000000000) (o : StepD) (k : StepOK o h t) :
    Calls Tryd.prog 17 #[.pointer (some ⟨bs, 0, none⟩), stepV o] w fun e w' => e = .returned (.bool true) ∧ Behind n0 own w bs (b + 500000) (stepF o h t).2 (stepF o h t).1 w' := by
  obtain ⟨n, sz, hn9⟩ := k.siz
  have hl := sz.l
  have hol := sz.opn
  have hnow := sz.now
  have hver := sz.last (keyD o.a)
  have up : ∀ {t2 : St} {h2 : Sh} {w2 : World}, Behind n0 own w bs (b + 5) t2 h2 w2 → Behind n0 own w bs (b + 500000) t2 h2 w2 := fun ⟨o2, S2, K2⟩ => ⟨o2, S2.mono (by omega), K2⟩
  by_cases k2 : o.kind = 2
  · exact step_pass S hn hb o k2 k.a k.b k.clk k.len (by omega)
  unfold stepF
  by_cases k0 : o.kind = 0
  · rw [if_pos k0]
    refine (step_write S hn (by omega) o k0 k.a (by omega) (by omega) k.few).mono ?_
    rintro e w2 ⟨rfl, B⟩
    exact ⟨rfl, up B⟩
  rw [if_neg k0]
  by_cases k1 : o.kind = 1
  · rw [if_pos k1]
    by_cases hp : (lastOf h.l (keyD o.a)).pres = 0
    · rw [if_pos hp]
      refine (step_remove0 S hn (by omega) o k1 k.a (by omega) (by omega) (by rw [← k.pres]; exact hp) hp).mono ?_
      rintro e w2 ⟨rfl, B⟩
      exact ⟨rfl, up B⟩
    · rw [if_neg hp]
      refine (step_remove1 S hn (by omega) o k1 k.a (by omega) (by omega) (by rw [← k.pres]; exact hp) hp).mono ?_
      rintro e w2 ⟨rfl, B⟩
      exact ⟨rfl, up B⟩
  rw [if_neg k1, if_neg k2]
  by_cases k3 : o.kind = 3
  · rw [if_pos k3]
    exact step_ask S hn hb o k3 k.a k.b (by omega)
  rw [if_neg k3]
  by_cases k4 : o.kind = 4 ∨ o.kind = 5 ∨ o.kind = 6
  · rw [if_pos k4]
    exact step_net S hn hb o k4 k.a
  rw [if_neg k4]
  by_cases k7 : o.kind = 7
  · rw [if_pos k7]
    exact step_timeout S hn hb o k7 k.a k.b
  rw [if_neg k7]
  by_cases k8 : o.kind = 8
  · rw [if_pos k8]
    exact step_crash S hn hb o k8 k.a k.b
  rw [if_neg k8]
  by_cases k9 : o.kind = 9
  · rw [if_pos k9]
    exact step_settle S hn hb o k9 k.a k.b
  rw [if_neg k9]
  exact step_other S o (by omega)

end Go.Proofs.YtpdkojgepagbnaaDoor
