/-
  A cache's entries, told on the plain tier: no more than may be, of different keys.
-/
import Derived.Test.YtpdkojgepagbnaaDoorJ38
import Derived.Test.YtpdkojgepagbnaaDoorJ29
namespace Go.Proofs.YtpdkojgepagbnaaDoor
set_option maxRecDepth 100000
open Go.RowKit
open Tier (Mes Ans Conf St)

variable {own : Own} {τ : Nat} {w : World} {bt b : Nat} {t : St}

theorem TierAt.entries (h : TierAt own τ w bt b t) (hb : b ≤ 1000000000000) {n : Nat} (h0 : 0 < n) (h1 : n < t.c.parents.length) :
    Calls Tryd.prog 28 #[.pointer (some ⟨bt, 0, none⟩), .int .i64 (n : Int)] w fun r w' => ∃ (v : Value) (L : List See), r = .returned (.tuple #[v, .int .i64 0]) ∧ Turn nothing w w' ∧ w'.ownsRow w.heap.size 71 5 v L.length ((L.map seeL).flatten) ∧ (L.length : Int) ≤ t.c.entries ∧ (L.map See.key).Nodup := by
  obtain ⟨g, s, L, S, F, R, Q⟩ := h.is
  rw [R.c] at h1
  have hlen := S.len
  have hu := S.used n
  have he := S.entries
  have hck := S.clk n
  refine (Entries_any own τ bt g s n w L (S.fine F (by omega)) (by omega) (by omega) (inB_cache h0 h1) (by omega) (fun k hk => Nat.le_trans (hu.2 k hk) (by decide)) ⟨by decide, by decide, by decide, hck.1, hck.2⟩).mono ?_
  rintro e w' ⟨v, l, rfl, T, O, e⟩
  refine ⟨v, l, rfl, T, O, ?_, by rw [e]; exact R.nodup n h1⟩
  have : l.length = (s.used n).length := by rw [← e, List.length_map]
  rw [this, R.c]
  exact R.room n h1

end Go.Proofs.YtpdkojgepagbnaaDoor
