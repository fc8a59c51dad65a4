/-
  A budgeted run and an honest run, from their arguments.
-/
import Derived.Test.YtpdkojgepagbnaaDoorJ32
import Derived.Test.YtpdkojgepagbnaaDoorJ39
namespace Go.Proofs.YtpdkojgepagbnaaDoor
set_option maxRecDepth 100000
open Go.RowKit
open Tier (Mes Ans Conf St Was)

theorem opened_any (a : Option Addr) (cap : Nat) (zs : List Int) (dr bu en wa : Int) (n0 : Nat) (hlow : 1 < n0) (hz : zs.length ≤ 1048576) (hzi : ∀ z ∈ zs, I64 z) (hi : I64 dr ∧ I64 bu ∧ I64 en ∧ I64 wa)
    (w1 : World) (hK : KeyTab w1) (hn : n0 ≤ w1.heap.size) (hs : SliceAt w1 a zs) :
    Calls Tryd.prog 16 #[.agg #[.slice a zs.length cap, .int .i64 dr, .int .i64 bu, .int .i64 en, .int .i64 wa]] w1 fun r w' => ∃ bs own', r = .returned (.pointer (some ⟨bs, 0, none⟩)) ∧ Shop n0 own' w' bs 0 (Tier.new (confD zs dr bu en wa)) (sh0 (confD zs dr bu en wa)) ∧ Turn nothing w1 w' :=
  opened_of a cap zs dr bu en wa n0 w1 hK hn hlow hs (fun w2 h2 => config_any a cap zs dr bu en wa w2 (Nat.le_trans hz (by decide)) h2 hzi hi.1 hi.2.1 hi.2.2.1 hi.2.2.2)

theorem below_of {w w' : World} (T : Turn (fun k => w.heap.size ≤ k) w w') : Below w.heap.size w w' := ⟨T.os, T.tape, T.output, T.size, fun k hk => T.block k hk (by omega)⟩
theorem script_lt {w : World} {a : Option Addr} {l : List StepD} (h : ScriptAt w a l) (hp : 0 < l.length) : ∀ ad, a = some ad → ad.block < w.heap.size := fun ad e => by
  obtain ⟨b, off, e2, c0, _⟩ := h.at_ 0 _ (List.getElem?_eq_getElem hp)
  rw [e] at e2
  cases e2
  exact cell_lt c0
theorem slice_lt {w : World} {a : Option Addr} {l : List Int} (h : SliceAt w a l) (hp : 0 < l.length) : ∀ ad, a = some ad → ad.block < w.heap.size := fun ad e => by
  obtain ⟨b, off, e2, hr⟩ := h hp
  rw [e] at e2
  cases e2
  exact cell_lt (hr 0 hp)

theorem budgeted_any (a : Option Addr) (cap : Nat) (zs : List Int) (dr bu en wa : Int) (sa : Option Addr) (scap : Nat) (script : List StepD) (w : World) (hK : KeyTab w) (hs : SliceAt w a zs) (hz : zs.length ≤ 1048576) (hzi : ∀ z ∈ zs, I64 z) (hi : I64 dr ∧ I64 bu ∧ I64 en ∧ I64 wa)
    (hsc : ScriptAt w sa script) (hsl : script.length ≤ 1048576) :
    Calls Tryd.prog 7 #[.agg #[.slice a zs.length cap, .int .i64 dr, .int .i64 bu, .int .i64 en, .int .i64 wa], .slice sa script.length scap] w fun r w' => r = .returned (.bool true) ∧ Below w.heap.size w w' :=
  (budgeted_of a cap zs dr bu en wa sa scap script w.heap.size w hK (Nat.le_refl _) hs hsc hsl (script_lt hsc)
    (opened_any a cap zs dr bu en wa w.heap.size (cell_lt hK.1) hz hzi hi)).mono fun _ _ ⟨e, T⟩ => ⟨e, below_of T⟩

theorem honest_any (a : Option Addr) (cap : Nat) (zs : List Int) (dr bu en wa : Int) (sa : Option Addr) (scap : Nat) (script : List StepD) (ka : Option Addr) (kcap : Nat) (ks : List Int) (w : World) (hK : KeyTab w) (hs : SliceAt w a zs) (hz : zs.length ≤ 1048576) (hzi : ∀ z ∈ zs, I64 z) (hi : I64 dr ∧ I64 bu ∧ I64 en ∧ I64 wa)
    (hsc : ScriptAt w sa script) (hsl : script.length ≤ 1048576) (hks : SliceAt w ka ks) (hkl : ks.length ≤ 1048576) :
    Calls Tryd.prog 8 #[.agg #[.slice a zs.length cap, .int .i64 dr, .int .i64 bu, .int .i64 en, .int .i64 wa], .slice sa script.length scap, .slice ka ks.length kcap] w fun r w' => r = .returned (.bool true) ∧ Below w.heap.size w w' :=
  (honest_of a cap zs dr bu en wa sa scap script ka kcap ks w.heap.size w hK (Nat.le_refl _) hs hsc hsl (script_lt hsc) hks (slice_lt hks) (Nat.le_trans hkl (by decide))
    (opened_any a cap zs dr bu en wa w.heap.size (cell_lt hK.1) hz hzi hi)).mono fun _ _ ⟨e, T⟩ => ⟨e, below_of T⟩

end Go.Proofs.YtpdkojgepagbnaaDoor
