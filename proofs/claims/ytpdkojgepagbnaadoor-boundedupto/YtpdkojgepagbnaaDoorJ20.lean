/-
  All fetches of a cache are let go.
  All entries of a cache are taken away.
  A message is taken out of the net.
  The call that takes a message out.
-/
import Derived.Test.YtpdkojgepagbnaaDoorJ09
import Derived.Test.YtpdkojgepagbnaaDoorJ17
import Derived.Test.YtpdkojgepagbnaaDoorJ14
namespace Go.Proofs.YtpdkojgepagbnaaDoor
set_option maxRecDepth 100000
open Go.RowKit
open Tier (Mes Ans Conf)
open Go.Maps
attribute [local go_sem ↓] Go.wp_at_zero Go.wp_at_succ

/-- What is read while the fetches are gone through. -/
theorem MapIs.reads {w : World} {b m : Nat} {D : DataW Value} {l : List ((Nat × ByteArray) × Ft)} (h : MapIs Tryd.prog 100 w b (rawL placeV ftV l)) (hs : ∀ p ∈ l, ∃ a c, p.2.v = .slice a p.2.l.length c) (hk : ∀ p ∈ l, p.1.1 < 1000 ∧ p.1.2.size ≤ 100) (ho : w.ownsMap Tryd.prog 100 ftR b m D) :
    ∀ x kl c, keyOf Tryd.prog 100 (mkP x) = some kl → (∀ zd, D.atKey kl zd = .held (mkF c)) → ∃ p ∈ l, placeV p.1 = mkP x ∧ ftV p.2 = mkF c ∧ kl = klitP Tryd.prog p.1 := by
  obtain ⟨es, clock, hb, F, hl⟩ := h.is
  obtain ⟨es', clock', hb', F', _, rfl⟩ := ho
  rw [hb] at hb'
  cases hb'
  have hval : ∀ x ∈ es.toList, ∃ p ∈ l, x.key = placeV p.1 ∧ x.val = ftV p.2 := by
    intro x hx
    have : pairV x ∈ rawL placeV ftV l := by rw [← hl]; exact List.mem_map.2 ⟨x, hx, rfl⟩
    obtain ⟨p, hp, e⟩ := List.mem_map.1 this
    exact ⟨p, hp, (congrArg Prod.fst e).symm, (congrArg Prod.snd e).symm⟩
  have hread : ∀ x ∈ es.toList, ftR x.val = some (.held x.val, []) := by
    intro x hx
    obtain ⟨p, hp, _, e⟩ := hval x hx
    obtain ⟨a, c, hv⟩ := hs p hp
    rw [e, ftV, hv]
    rfl
  intro x kl c hkx hat
  rcases Maps.fit_look false placeKeyed Tryd.underlying95 (zeroFt w) hb F' hkx with ⟨_, _, h3⟩ | ⟨e0, y, hm0, hk0, _, hy, h3, _⟩
  · have := (hat .nil).symm.trans (h3 .nil)
    cases this
  · obtain ⟨p, hp, e1, e2⟩ := hval e0 hm0
    rw [hread e0 hm0] at hy
    cases hy
    have := (hat .nil).symm.trans (h3 .nil)
    injection this with this
    refine ⟨p, hp, by rw [← e1, hk0], by rw [← e2]; exact this.symm, ?_⟩
    have hk' := klit_key (hk p hp).1 (hk p hp).2
    rw [← e1, hk0, hkx] at hk'
    exact Option.some.inj hk'

/-- Those that are left: of other caches, or not come to yet. -/
def keepP (P : Program) (n : Nat) (left : Lit → Bool) (p : (Nat × ByteArray) × Ft) : Bool := decide (p.1.1 ≠ n) || left (klitP P p.1)

theorem adel_filter {κ ε : Type} [DecidableEq κ] (k : κ) : ∀ {l : List (κ × ε)}, l.Pairwise (fun p q => p.1 ≠ q.1) → adel l k = l.filter (fun p => decide (p.1 ≠ k))
  | [], _ => rfl
  | q :: r, h => by
    obtain ⟨h1, h2⟩ := List.pairwise_cons.1 h
    unfold adel
    split
    · next e =>
      rw [List.filter_cons_of_neg (by simpa using e)]
      symm
      exact List.filter_eq_self.2 (fun p hp => decide_eq_true (fun e' => h1 p hp (e.trans e'.symm)))
    · next e => rw [List.filter_cons_of_pos (by simpa using e), adel_filter k h2]

theorem other_key {l : List ((Nat × ByteArray) × Ft)} (hk : ∀ p ∈ l, p.1.1 < 1000 ∧ p.1.2.size ≤ 100) {p p0} (hp : p ∈ l) (hp0 : p0 ∈ l) : (klitP Tryd.prog p.1).sameKey (klitP Tryd.prog p0.1) = decide (p.1 = p0.1) := by
  by_cases e : p.1 = p0.1
  · rw [e, decide_eq_true rfl]
    exact WideAt.sameKey_self (placeKeyed.key (klit_key (hk p0 hp0).1 (hk p0 hp0).2))
  · rw [decide_eq_false e]
    cases hs : (klitP Tryd.prog p.1).sameKey (klitP Tryd.prog p0.1)
    · rfl
    · have e' := WideAt.sameKey_eq hs
      have k1 := klit_key (hk p hp).1 (hk p hp).2
      have k2 := klit_key (hk p0 hp0).1 (hk p0 hp0).2
      rw [e'] at k1
      exact absurd (placeV_inj _ _ (placeKeyed.inj k1 k2)) e

theorem keep_del {n : Nat} {left : Lit → Bool} {l : List ((Nat × ByteArray) × Ft)} (hn : l.Pairwise (fun p q => p.1 ≠ q.1)) (hk : ∀ p ∈ l, p.1.1 < 1000 ∧ p.1.2.size ≤ 100) {p0} (hp : p0 ∈ l) (h0 : p0.1.1 = n) :
    adel (l.filter (keepP Tryd.prog n left)) p0.1 = l.filter (keepP Tryd.prog n (fun z => (left z && !z.sameKey (klitP Tryd.prog p0.1)) && !z.sameKey (klitP Tryd.prog p0.1))) := by
  rw [adel_filter _ (hn.filter _), List.filter_filter]
  refine List.filter_congr (fun p hp' => ?_)
  unfold keepP
  dsimp only
  rw [other_key hk hp' hp]
  by_cases e : p.1 = p0.1
  · simp [e, h0]
  · simp [e]

theorem keep_other {n : Nat} {left : Lit → Bool} {l : List ((Nat × ByteArray) × Ft)} (hk : ∀ p ∈ l, p.1.1 < 1000 ∧ p.1.2.size ≤ 100) {p0} (hp : p0 ∈ l) (h0 : p0.1.1 ≠ n) :
    l.filter (keepP Tryd.prog n left) = l.filter (keepP Tryd.prog n (fun z => left z && !z.sameKey (klitP Tryd.prog p0.1))) := by
  refine List.filter_congr (fun p hp' => ?_)
  unfold keepP
  dsimp only
  rw [other_key hk hp' hp]
  by_cases e : p.1 = p0.1
  · simp [e, h0]
  · simp [e]

set_option maxHeartbeats 4000000 in
theorem FClear_any (b n : Nat) (l : List ((Nat × ByteArray) × Ft)) (w : World) (h : MapIs Tryd.prog 100 w b (rawL placeV ftV l)) (hs : ∀ p ∈ l, ∃ a c, p.2.v = .slice a p.2.l.length c) (hk : ∀ p ∈ l, p.1.1 < 1000 ∧ p.1.2.size ≤ 100) :
    Calls Tryd.prog 78 #[.map (some b), .int .i64 (n : Int)] w fun r w' => r = .returned (.tuple #[]) ∧ Turn (fun k => k = b) w w' ∧ MapIs Tryd.prog 100 w' b (rawL placeV ftV (l.filter (fun p => decide (p.1.1 ≠ n)))) := by
  have hap := rawL_apart h.apart
  obtain ⟨D, m, hown, hhas, _⟩ := h.ranging hs hk
  have hblt : b < w.heap.size := h.lt
  have KR := hide (fun w' left (h : MapIs Tryd.prog 100 w' b (rawL placeV ftV (l.filter (keepP Tryd.prog n left)))) D' (ho : w'.ownsMap Tryd.prog 100 ftR b m D') => h.reads (fun p hp => hs p (List.mem_filter.1 hp).1) (fun p hp => hk p (List.mem_filter.1 hp).1) ho)
  have KO := hide hown
  have KD := hide (fun left p0 hp h0 => keep_del (n := n) (left := left) (l := l) hap hk (p0 := p0) hp h0)
  have KX := hide (fun left p0 hp h0 => keep_other (n := n) (left := left) (l := l) hk (p0 := p0) hp h0)
  have KV := hide hs
  have KK := hide hk
  have K0 : Hid (l.filter (keepP Tryd.prog n (Maps.has D)) = l) := List.filter_eq_self.2 (fun p hp => by unfold keepP; rw [hhas p hp]; simp)
  have HM := hide h
  clear h hs hk hap hown hhas
  go_enter Tryd.func78, Tryd.ntmps78
  go_wp2_with (first
    | (at_range; refine wpList_range_own _ rfl _ 95 rfl 100 118 placeKeyed Tryd.underlying95 ftR b m D rfl (unhide KO) ?_; intro w0 hrg0 hg0 hs0; go_frame)
    | go_in)
  go_loopw [] (fun wr => ∃ (left : Lit → Bool) (cnt : Nat) (D' : DataW Value), Hid (MapIs Tryd.prog 100 wr b (rawL placeV ftV (l.filter (keepP Tryd.prog n left)))) ∧ Hid (wr.ranges Tryd.prog 100 ftR b w.heap.size m D' left cnt) ∧ Hid (Turn (fun k => k = b) w wr)) (fun wr => wr.rangeLeft b w.heap.size)
  case atStart => exact ⟨Maps.has D, Maps.size D, D, by rw [unhide K0]; exact (unhide HM).heap (hg0.block b hblt (by simp)), hrg0, (Turn.grown hg0).mono (fun _ _ h => by cases h)⟩
  case round =>
    obtain ⟨left, cnt, D', hM, hrg, hT⟩ := hrel
    go_wp2_with (first
      | (at_next; refine wpList_next_ranges _ rfl _ rfl 100 placeKeyed ftR mkP mkF place_inv ftR_inv b w.heap.size m D' left cnt rfl (unhide hrg) ?_ ?_)
      | go_in)
    · intro _ hl0
      go_wp2
      go_end0
      refine ⟨rfl, unhide hT, ?_⟩
      have e : l.filter (keepP Tryd.prog n left) = l.filter (fun p => decide (p.1.1 ≠ n)) := List.filter_congr (fun p _ => by unfold keepP; rw [hl0]; simp)
      have := unhide hM
      rw [e] at this
      exact this
    · intro xi xs fa fb sa sn sc kl y1 y2 w1 cnt1 hkx hlk hRv hat hrg1 hlt hg1 hs1 hen
      obtain ⟨p0, hp, ep, _, hkl⟩ := unhide KR wr left (unhide hM) D' (unhide hrg).owns (xi, xs) kl ((fa, fb), (sa, sn, sc)) hkx (fun zd => by rw [hat zd]; cases hRv; rfl)
      have hp0 := (List.mem_filter.1 hp).1
      obtain ⟨⟨pn, pk⟩, pf⟩ := p0
      simp only [placeV, mkP, Value.agg.injEq, Array.mk.injEq, List.cons.injEq, Value.int.injEq, Value.string.injEq, true_and, and_true] at ep
      obtain ⟨rfl, rfl⟩ := ep
      have hM1 : Hid (MapIs Tryd.prog 100 w1 b (rawL placeV ftV (l.filter (keepP Tryd.prog n left)))) := (unhide hM).heap (hg1.block b (unhide hM).lt (fun e => by cases e; omega))
      have hT1 : Hid (Turn (fun k => k = b) w w1) := by
        refine (unhide hT).step_turn (Turn.grown hg1) (fun k' hk' e => ?_)
        cases e
        omega
      have HR1 := hide hrg1
      have HLT := hide hlt
      have HRL := hide (unhide hrg).left_eq
      have hkx' : keyOf Tryd.prog 100 (placeV (pn, pk)) = some kl := hkx
      clear hrg1 hlt hat hRv hkx hlk hg1 hT hM hrg hp
      simp only [mkP, mkF] at hen ⊢
      by_cases hx : (pn : Int) = (n : Int)
      · have hx' : pn = n := by omega
        have hdel := unhide KD left ((pn, pk), pf) hp0 hx'
        rw [← hkl] at hdel
        obtain ⟨w2, cnt2, hrun, r1, r2, r3⟩ := ((unhide HR1).alloc (.cells #[.int .i64 (pn : Int), .string pk] 100)).drop placeKeyed Tryd.underlying95 hkx' 0
        obtain ⟨w3, hrun3, hm3, ht3⟩ := map_del (w := w1.alloc (.cells #[.int .i64 (pn : Int), .string pk] 100)) ((unhide hM1).heap ((MapKept.heap_alloc _ _).2 b (unhide hM1).lt)) placeKeyed Tryd.underlying95 placeV_inj hkx' 0
        rw [hrun] at hrun3
        injection hrun3 with _ e3
        subst e3
        rw [hdel] at hm3
        have HE : Hid (MapIs Tryd.prog 100 w2 b (rawL placeV ftV (l.filter (keepP Tryd.prog n (fun z => (left z && !z.sameKey kl) && !z.sameKey kl)))) ∧ w2.ranges Tryd.prog 100 ftR b w.heap.size m (D'.del kl) (fun z => (left z && !z.sameKey kl) && !z.sameKey kl) cnt2 ∧ Turn (fun k => k = b) w w2 ∧ cnt2 ≤ cnt1) := ⟨hm3, r1, ((unhide hT1).step_alloc).step_turn (Turn.grown r3.grown) (fun _ _ e => (Option.some.inj e)), r2⟩
        simp only [placeV] at hrun
        clear hx
        subst hx'
        clear hm3 r1 r2 r3 ht3 hdel hkx' hkl
        go_wp2
        refine ⟨⟨_, cnt2, _, (unhide HE).1, (unhide HE).2.1, (unhide HE).2.2.1⟩, ?_⟩
        rw [(unhide HE).2.1.left_eq, unhide HRL]
        exact Nat.lt_of_le_of_lt (unhide HE).2.2.2 (unhide HLT)
      · have hx' : pn ≠ n := by omega
        have hoth := unhide KX left ((pn, pk), pf) hp0 hx'
        rw [← hkl] at hoth
        rw [hoth] at hM1
        clear hoth hkl hkx'
        go_wp2
        refine ⟨⟨fun z => left z && !z.sameKey kl, cnt1, D', (unhide hM1).heap ((MapKept.heap_alloc _ _).2 b (unhide hM1).lt), (unhide HR1).alloc _, (unhide hT1).step_alloc⟩, ?_⟩
        rw [((unhide HR1).alloc _).left_eq, unhide HRL]
        exact unhide HLT

end Go.Proofs.YtpdkojgepagbnaaDoor

namespace Go.Proofs.YtpdkojgepagbnaaDoor
set_option maxRecDepth 100000
open Go.RowKit
open Tier (Mes Ans Conf)
attribute [local go_sem ↓] Go.wp_at_zero Go.wp_at_succ

def delL (n : Nat) (l : List ((Nat × ByteArray) × Ent)) (ks : List ByteArray) : List ((Nat × ByteArray) × Ent) := ks.foldl (fun l k => adel l (n, k)) l
theorem delL_snoc (n : Nat) (l : List ((Nat × ByteArray) × Ent)) (ks : List ByteArray) (j : Nat) (k : ByteArray) (h : ks[j]? = some k) : delL n l (ks.take (j + 1)) = adel (delL n l (ks.take j)) (n, k) := by
  rw [List.take_add_one, h]
  simp [delL]
def PS.clearE (s : PS) (n : Nat) : PS := { s with found := delL n s.found (s.used n), used := fun m => if m = n then [] else s.used m }
def PS.clearF (s : PS) (n : Nat) : PS := { s with fts := s.fts.filter (fun p => decide (p.1.1 ≠ n)) }

/-- A key of those used: where it lies. -/
theorem Lies.usedAt {own : Own} {τ : Nat} {w : World} {bt : Nat} {g : Gh} {s : PS} (h : Lies own τ w bt g s) {n j : Nat} {k : ByteArray} (hn : n < 6) (hj : (s.used n)[j]? = some k) :
    ∃ b c, g.u n = .slice (some ⟨b, 0, none⟩) (s.used n).length c ∧ own b = some (τ, 7 + n) ∧ w.cell? ⟨b, j, none⟩ = some (.string k) := by
  have hlen : j < (s.used n).length := (List.getElem?_eq_some_iff.1 hj).1
  have hr := (h.used n hn).row
  have hm := (h.used n hn).mine
  rw [List.length_map] at hr
  have hr' := hr
  obtain ⟨hl, ⟨hv, h0⟩ | ⟨b, cap, cur, hv, _⟩⟩ := hr
  · omega
  · rw [hv] at hr'
    refine ⟨b, cap, hv, hm b (by rw [hv]; rfl), ?_⟩
    rw [hr'.cellAt j (by omega)]
    have := flatten_get (m := 1) ((s.used n).map fun k => [Value.string k]) j 0 [.string k] (by intro y hy; obtain ⟨z, _, rfl⟩ := List.mem_map.1 hy; rfl) (by simp [hj]) (by omega)
    simpa using this

/-- Nothing is used any more. -/
theorem Lies.emptied {own : Own} {τ : Nat} {w : World} {bt : Nat} {g : Gh} {s : PS} (h : Lies own τ w bt g s) {n : Nat} (hn : n < 6) :
    Lies (dropO own (τ, 7 + n)) τ (w.setCell ⟨g.be, 2 + n, none⟩ (.slice none 0 0)) bt (setU g n (.slice none 0 0)) { s with used := fun m => if m = n then [] else s.used m } ∧ Step τ own (dropO own (τ, 7 + n)) w (w.setCell ⟨g.be, 2 + n, none⟩ (.slice none 0 0)) := by
  have hd : ∀ {k' x}, own k' = some (τ, x) → x ≠ 7 + n → dropO own (τ, 7 + n) k' = own k' := fun {k' x} ho hx => by
    unfold dropO
    rw [if_neg]
    rw [ho]
    intro e
    cases e
    exact hx rfl
  have hblk : ∀ k', k' ≠ g.be → (w.setCell ⟨g.be, 2 + n, none⟩ (.slice none 0 0)).heap[k']? = w.heap[k']? := fun k' hk => heap_setCell_other hk
  have F : Fr (fun x => x = 5 ∨ x = 7 + n) own (dropO own (τ, 7 + n)) τ w (w.setCell ⟨g.be, 2 + n, none⟩ (.slice none 0 0)) :=
    ⟨fun k' hk x hx ho => ⟨hblk k' (fun e => by rw [e, h.entsO] at ho; cases ho; exact hx (Or.inl rfl)), hd ho (fun e => hx (Or.inr e))⟩⟩
  refine ⟨⟨?_, ⟨F.block h.tierO (by omega) h.tier.block⟩, F.own h.tierO (by omega) h.tier.lt, F.row h.pars (by omega), F.block h.origO (by omega) h.orig, F.own h.origO (by omega) (heap_lt h.orig), F.map h.recsO (by omega) h.recs, F.own h.recsO (by omega) h.recs.lt, ?_, ?_, F.map h.foundO (by omega) h.found, F.own h.foundO (by omega) h.found.lt,
    fun i hi => ?_, F.map h.ftsO (by omega) h.fts, F.own h.ftsO (by omega) h.fts.lt, fun p hp => F.row (h.waits p hp) (by omega), F.row h.net (by omega), F.row h.ans (by omega)⟩, ⟨(Turn.refl _ _).step_set (Or.inr ⟨5, h.entsO⟩), fun k' hk => ?_⟩⟩
  · intro k' hk
    have := h.top k' (by simpa using hk)
    unfold dropO
    rw [this]
    rfl
  · have := heap_set (i := 2 + n) (v := .slice none 0 0) h.ents
    rw [entsC_set s g hn] at this
    exact this
  · show dropO own (τ, 7 + n) g.be = _
    rw [hd h.entsO (by omega)]; exact h.entsO
  · by_cases e : i = n
    · subst e
      simp only [setU, if_true]
      exact ⟨World.ownsRow_nil _ _ _ _, fun k' hk => by cases hk⟩
    · simp only [setU, if_neg e]
      exact F.row (h.used i hi) (by omega)
  · by_cases e : own k' = some (τ, 7 + n)
    · exact Or.inr ⟨⟨_, e⟩, Or.inl (by unfold dropO; rw [if_pos e])⟩
    · exact Or.inl (by unfold dropO; rw [if_neg e])

set_option maxHeartbeats 4000000 in
theorem EClear_any (own : Own) (τ bt : Nat) (g : Gh) (s : PS) (n : Nat) (w : World) (h : Lies own τ w bt g s) (hn : n < 6) (hul : (s.used n).length ≤ 1000) (hks : ∀ k ∈ s.used n, k.size ≤ 100) :
    Calls Tryd.prog 77 #[.pointer (some ⟨g.be, 0, none⟩), .int .i64 (n : Int)] w fun r w' => r = .returned (.tuple #[]) ∧ ∃ own' g', Lies own' τ w' bt g' (s.clearE n) ∧ Step τ own own' w w' ∧ g.Like g' := by
  obtain ⟨ua, uc, hu⟩ := row_form (h.used n hn).row
  rw [List.length_map] at hu
  have dn := h.usedCell hn
  rw [hu] at dn
  have HH := hide h
  have HU := hide hu
  have HK := hide hks
  have i0 : (0 : Int) ≤ (n : Int) := by omega
  have i1 : (n : Int) < 6 := by omega
  clear h hu hks
  obtain ⟨L, hL⟩ : ∃ L, L = s.used n := ⟨_, rfl⟩
  rw [← hL] at dn HU HK hul
  have HLq := hide hL
  clear hL
  have hul' : (L.length : Int) ≤ 1000 := by omega
  go_enter Tryd.func77, Tryd.ntmps77
  go_wp2
  go_loopw [13] (fun i wr => ∃ (j : Nat), j ≤ L.length ∧ i = .int .i64 (j : Int) ∧ Hid (Lies own τ wr bt g { s with found := delL n s.found (L.take j) } ∧ Step τ own own w wr)) (fun i _ => L.length - (intOf i).toNat)
  case atStart => exact ⟨0, Nat.zero_le _, by simp, by simpa [delL] using unhide HH, Step.refl _ _ _⟩
  case round =>
    obtain ⟨j, hj, rfl, HR⟩ := hrel
    by_cases hlt : j < L.length
    · obtain ⟨k, hk⟩ : ∃ k, L[j]? = some k := ⟨_, List.getElem?_eq_getElem hlt⟩
      have hk2 := unhide HK k (List.mem_of_getElem? hk)
      obtain ⟨b, c, hub, _, cb⟩ := (unhide HR).1.usedAt (k := k) (j := j) hn (by rw [← unhide HLq]; exact hk)
      have hub' := hub
      rw [unhide HU] at hub'
      have hua : ua = some ⟨b, 0, none⟩ := by injection hub'
      subst hua
      have j0 : (0 : Int) ≤ (j : Int) := by omega
      have j1 : (j : Int) < (L.length : Int) := by omega
      have c1 : wr.cell? ⟨g.be, 1, none⟩ = some (.map (some g.bf)) := cell_of_cells (unhide HR).1.ents 1
      obtain ⟨kl, hkey⟩ := placeKey (p := (n, k)) (by omega) hk2
      obtain ⟨w2, hrun, hm2, ht2⟩ := map_del (w := wr) (unhide HR).1.found placeKeyed Tryd.underlying141 placeV_inj hkey 0
      have HE : Hid (Lies own τ w2 bt g { s with found := delL n s.found (L.take (j + 1)) } ∧ Step τ own own w w2) := by
        obtain ⟨L2, S2⟩ := (unhide HR).1.stored hm2 ht2
        rw [delL_snoc n s.found L j k hk]
        exact ⟨L2, (unhide HR).2.trans S2⟩
      simp only [placeV] at hrun
      clear hm2 ht2 hkey HR hub hub'
      go_wp2
      go_roundw
      case rel => exact ⟨j + 1, by omega, by go_num, HE⟩
      case measure => simp [intOf]; omega
    · have e : j = L.length := by omega
      subst e
      rw [List.take_length] at HR
      have c2 : wr.cell? ⟨g.be, 2 + n, none⟩ = some (g.u n) := (unhide HR).1.usedCell hn
      have f2 : wr.frozen? ⟨g.be, 2 + n, none⟩ = false := frozen_of_cells (unhide HR).1.ents _
      have HE := hide ((unhide HR).1.emptied hn)
      go_wp2
      go_end0
      refine ⟨rfl, _, setU g n (.slice none 0 0), ?_, (unhide HR).2.trans (unhide HE).2, Gh.like_setU _ _ _⟩
      have := (unhide HE).1
      unfold PS.clearE
      rw [← unhide HLq]
      exact this

end Go.Proofs.YtpdkojgepagbnaaDoor

namespace Go.Proofs.YtpdkojgepagbnaaDoor
set_option maxRecDepth 100000
open Go.RowKit
open Tier (Mes Ans Conf)
attribute [local go_sem ↓] Go.wp_at_zero Go.wp_at_succ

theorem mes_one (l : List Mes) : ∀ v ∈ (l.map mesL).flatten, v.oneCell' = true := by
  intro v hv
  obtain ⟨x, hx, hv⟩ := List.mem_flatten.1 hv
  obtain ⟨m, _, rfl⟩ := List.mem_map.1 hx
  simp only [mesL, List.mem_cons, List.not_mem_nil, or_false] at hv
  rcases hv with rfl | rfl | rfl | rfl | rfl | rfl | rfl | rfl | rfl <;> rfl

theorem flatten_cut {α : Type} {m : Nat} : ∀ (l : List (List α)) (i : Nat), (∀ y ∈ l, y.length = m) → (l.take i).flatten = l.flatten.take (i * m) ∧ (l.drop i).flatten = l.flatten.drop (i * m)
  | l, 0, _ => by simp
  | [], i + 1, _ => by simp
  | y :: r, i + 1, h => by
    have hy := h y (by simp)
    obtain ⟨h1, h2⟩ := flatten_cut r i (fun z hz => h z (by simp [hz]))
    have e : (i + 1) * m = y.length + i * m := by rw [hy, Nat.succ_mul]; omega
    rw [List.take_succ_cons, List.drop_succ_cons, List.flatten_cons, List.flatten_cons, h1, h2, e]
    exact ⟨by rw [List.take_length_add_append], by rw [List.drop_length_add_append]⟩

/-- A message of the net: where it lies. -/
theorem Lies.mesAt {own : Own} {τ : Nat} {w : World} {bt : Nat} {g : Gh} {s : PS} (h : Lies own τ w bt g s) {i : Nat} {m : Mes} (hi : s.net[i]? = some m) :
    ∃ nb nc cur, g.nv = .slice (some ⟨nb, 0, none⟩) s.net.length nc ∧ own nb = some (τ, 14) ∧ nb < w.heap.size ∧ w.heap[nb]? = some (.cells cur 23 (0, 0)) ∧ s.net.length ≤ nc ∧ cur.size = nc * 9 ∧ cur.toList.take (s.net.length * 9) = (s.net.map mesL).flatten ∧ ∀ j, j < 9 → w.cell? ⟨nb, i * 9 + j, none⟩ = (mesL m)[j]? := by
  have hlen : i < s.net.length := (List.getElem?_eq_some_iff.1 hi).1
  have hr := h.net.row
  rw [List.length_map] at hr
  have hr' := hr
  obtain ⟨hl, ⟨hv, h0⟩ | ⟨b, cap, cur, hv, _, hg, h1, h2, h3, h4⟩⟩ := hr
  · omega
  · rw [hv] at hr'
    refine ⟨b, cap, cur, hv, h.net.mine b (by rw [hv]; rfl), heap_lt hg, hg, h1, by simpa using h3, by simpa using h4, fun j hj => ?_⟩
    rw [hr'.cellAt (i * 9 + j) (by omega)]
    exact flatten_get (s.net.map mesL) i j (mesL m) (m := 9) (by intro y hy; obtain ⟨z, _, rfl⟩ := List.mem_map.1 hy; rfl) (by simp [hi]) hj

set_option maxHeartbeats 1000000 in
theorem isSent_any (own : Own) (τ bt : Nat) (g : Gh) (s : PS) (i : Int) (w : World) (h : Lies own τ w bt g s) (hp : s.net.length ≤ 1000000000000) :
    Calls Tryd.prog 79 #[.pointer (some ⟨bt, 0, none⟩), .int .i64 i] w fun r w' => r = .returned (.bool (Nums.inB i 0 ((s.net.length : Int) - 1))) ∧ w' = w := by
  obtain ⟨a, c, hv⟩ := row_form h.net.row
  rw [List.length_map] at hv
  have d0 : w.cell? ⟨bt, 15, none⟩ = some (.slice a s.net.length c) := by rw [← hv]; exact cell_of_cells h.tier.block 15
  clear h hv
  generalize s.net.length = m at *
  have hm : IntKind.i64.wrap ((m : Int) - 1) = (m : Int) - 1 := by rw [IntKind.wrap_i64]; omega
  clear hp
  go_enter Tryd.func79, Tryd.ntmps79
  go_wp2_with fail
  refine (within_any i 0 ((m : Int) - 1) w).mono ?_
  rintro e w' ⟨rfl, rfl⟩
  go_wp2
  go_ret
  exact ⟨rfl, rfl⟩

/-- The net behind it. -/
theorem Lies.took {own : Own} {τ : Nat} {w w' : World} {bt : Nat} {g : Gh} {s : PS} (h : Lies own τ w bt g s) {i nb nc : Nat} {cur cur' : Array Value} (hi : i < s.net.length) (ho : own nb = some (τ, 14)) (hlc : s.net.length ≤ nc) (hcs : cur.size = nc * 9) (hcf : cur.toList.take (s.net.length * 9) = (s.net.map mesL).flatten) (hv : g.nv = .slice (some ⟨nb, 0, none⟩) s.net.length nc)
    (hT : Turn (fun k => k = nb ∨ k = bt) w w') (hb' : w'.heap[nb]? = some (.cells cur' 23 (0, 0))) (hsz : cur'.size = cur.size) (htk : cur'.toList.take ((s.net.length - 1) * 9) = cur.toList.take (i * 9) ++ (cur.toList.drop ((i + 1) * 9)).take ((s.net.length - 1 - i) * 9))
    (hbt : w'.heap[bt]? = some (.cells ({ s.ts g with nv := .slice (some ⟨nb, 0, none⟩) (s.net.length - 1) nc } : TS).cells 97 (0, 0))) :
    Lies own τ w' bt { g with nv := .slice (some ⟨nb, 0, none⟩) (s.net.length - 1) nc } (s.taken i) ∧ Step τ own own w w' := by
  have F : Fr (fun x => x = 1 ∨ x = 14) own own τ w w' := ⟨fun k' hk x hx ho' => ⟨hT.block k' hk (fun e => by
    rcases e with e | e
    · rw [e, ho] at ho'; cases ho'; exact hx (Or.inr rfl)
    · rw [e, h.tierO] at ho'; cases ho'; exact hx (Or.inl rfl)), rfl⟩⟩
  refine ⟨⟨fun k' hk => h.top k' (Nat.le_trans hT.size hk), ⟨hbt⟩, h.tierO, F.row h.pars (by omega), F.block h.origO (by omega) h.orig, h.origO, F.map h.recsO (by omega) h.recs, h.recsO, F.block h.entsO (by omega) h.ents, h.entsO, F.map h.foundO (by omega) h.found, h.foundO, fun i hi => F.row (h.used i hi) (by omega), F.map h.ftsO (by omega) h.fts, h.ftsO, fun p hp => F.row (h.waits p hp) (by omega), ?_, F.row h.ans (by omega)⟩, ⟨hT.mono (fun k' _ e => e.elim (fun e => ⟨14, by rw [e]; exact ho⟩) (fun e => ⟨1, by rw [e]; exact h.tierO⟩)), fun _ _ => Or.inl rfl⟩⟩
  have hlen : (s.taken i).net.length = s.net.length - 1 := by
    show (s.net.take i ++ s.net.drop (i + 1)).length = _
    simp
    omega
  have hu : ∀ y ∈ s.net.map mesL, y.length = 9 := by intro y hy; obtain ⟨z, _, rfl⟩ := List.mem_map.1 hy; rfl
  have hfl : ((s.taken i).net.map mesL).flatten = cur.toList.take (i * 9) ++ (cur.toList.drop ((i + 1) * 9)).take ((s.net.length - 1 - i) * 9) := by
    show ((s.net.take i ++ s.net.drop (i + 1)).map mesL).flatten = _
    rw [List.map_append, List.flatten_append, List.map_take, List.map_drop, (flatten_cut _ i hu).1, (flatten_cut _ (i + 1) hu).2, ← hcf, List.take_take, List.drop_take]
    congr 2
    · omega
    · omega
  obtain ⟨_, _⟩ := h.net
  have hr := h.net.row
  rw [List.length_map] at hr
  obtain ⟨hl, ⟨hv', h0⟩ | ⟨b, cap, cur0, hv', hb0, hg, h1, h2, h3, h4⟩⟩ := hr
  · omega
  · rw [hv] at hv'
    cases hv'
    refine ⟨⟨?_, Or.inr ⟨nb, nc, cur', by rw [List.length_map, hlen], Nat.zero_le _, hb', by rw [List.length_map, hlen]; omega, h2, by rw [hsz]; simpa using hcs, ?_⟩⟩, fun k' hk' => by cases hk'; exact ho⟩
    · rw [List.length_map, hlen, hfl, List.length_append, List.length_take, List.length_take, List.length_drop]
      simp only [Array.length_toList]
      omega
    · rw [List.length_map, hlen, hfl]
      simpa using htk

end Go.Proofs.YtpdkojgepagbnaaDoor

namespace Go.Proofs.YtpdkojgepagbnaaDoor
set_option maxRecDepth 100000
open Go.RowKit
open Tier (Mes Ans Conf)
attribute [local go_sem ↓] Go.wp_at_zero Go.wp_at_succ

/-- What is nobody's may be written. -/
theorem Lies.scratch {own : Own} {τ : Nat} {w : World} {bt : Nat} {g : Gh} {s : PS} (h : Lies own τ w bt g s) {b i : Nat} {v : Value} (hb : own b = none) : Lies own τ (w.setCell ⟨b, i, none⟩ v) bt g s :=
  h.frame (fun k _ ⟨x, hx⟩ => ⟨heap_setCell_other (fun e => by rw [e, hb] at hx; cases hx), rfl⟩) (fun k hk => h.top k (by simpa using hk))

set_option maxHeartbeats 4000000 in
theorem take_any (own : Own) (τ bt : Nat) (g : Gh) (s : PS) (i : Nat) (m : Mes) (w : World) (h : Lies own τ w bt g s) (hp : s.net.length ≤ 1000000000000) (hi : s.net[i]? = some m) :
    Calls Tryd.prog 81 #[.pointer (some ⟨bt, 0, none⟩), .int .i64 (i : Int)] w fun r w' => r = .returned (mesV m) ∧ ∃ g', Lies own τ w' bt g' (s.taken i) ∧ Step τ own own w w' ∧ g.Like g' := by
  obtain ⟨nb, nc, cur, hv, ho, hnb, hb, hlc, hcs, hcf, hcell⟩ := h.mesAt hi
  have hlen : i < s.net.length := (List.getElem?_eq_some_iff.1 hi).1
  have hbt : bt < w.heap.size := h.tier.lt
  have hne : nb ≠ bt := fun e => by rw [e, h.tierO] at ho; cases ho
  have d15 : w.cell? ⟨bt, 15, none⟩ = some (.slice (some ⟨nb, 0, none⟩) s.net.length nc) := by rw [← hv]; exact cell_of_cells h.tier.block 15
  have e15 : w.frozen? ⟨bt, 15, none⟩ = false := frozen_of_cells h.tier.block 15
  have KD := hide (fun w (hb : w.heap[nb]? = some (.cells cur 23 (0, 0))) => Delete_mes nb s.net.length nc i cur w hb hlc hcs hlen (fun v hv => mes_one s.net v (hcf ▸ hv)) hp)
  have HT := hide (fun w' cur' => h.took (w' := w') (cur' := cur') hlen ho hlc hcs hcf hv)
  have HB := hide h.tier.block
  have htop : Hid (∀ k', w.heap.size ≤ k' → own k' = none) := h.top
  have HBn := hide hb
  obtain ⟨kind, frm, tto, key, serial, ver, age, pres, val⟩ := m
  have c0 : w.cell? ⟨nb, i * 9, none⟩ = some (.int .i64 kind) := hcell 0 (by omega)
  have c1 : w.cell? ⟨nb, i * 9 + 1, none⟩ = some (.int .i64 frm) := hcell 1 (by omega)
  have c2 : w.cell? ⟨nb, i * 9 + 2, none⟩ = some (.int .i64 tto) := hcell 2 (by omega)
  have c3 : w.cell? ⟨nb, i * 9 + 3, none⟩ = some (.string key) := hcell 3 (by omega)
  have c4 : w.cell? ⟨nb, i * 9 + 4, none⟩ = some (.int .i64 serial) := hcell 4 (by omega)
  have c5 : w.cell? ⟨nb, i * 9 + 5, none⟩ = some (.int .i64 ver) := hcell 5 (by omega)
  have c6 : w.cell? ⟨nb, i * 9 + 6, none⟩ = some (.int .i64 age) := hcell 6 (by omega)
  have c7 : w.cell? ⟨nb, i * 9 + 7, none⟩ = some (.int .i64 pres) := hcell 7 (by omega)
  have c8 : w.cell? ⟨nb, i * 9 + 8, none⟩ = some (.string val) := hcell 8 (by omega)
  have hw1 : IntKind.i64.wrap ((i : Int) + 1) = (i : Int) + 1 := by rw [IntKind.wrap_i64]; omega
  have i0 : (0 : Int) ≤ (i : Int) := by omega
  have i1 : (i : Int) < (s.net.length : Int) := by omega
  simp only [mesV, mesL]
  clear h hp hi hcell hb hcf hcs hlc hv hlen
  generalize s.net.length = n at *
  go_enter Tryd.func81, Tryd.ntmps81
  go_wp2_with fail
  generalize hW : World.alloc _ _ = W0
  have T0 : Turn nothing w W0 := by rw [← hW]; exact (Turn.alloc _ _ _).step_alloc
  have hsz : W0.heap.size = w.heap.size + 1 + 1 := by rw [← hW]; simp
  have hr0 : W0.heap[w.heap.size]? = some (.cells #[.int .i64 0, .int .i64 0, .int .i64 0, .string ⟨#[]⟩, .int .i64 0, .int .i64 0, .int .i64 0, .int .i64 0, .string ⟨#[]⟩] 23 (0, 0)) := by rw [← hW]; exact new2_0 _ _ _
  have hr1 : W0.heap[w.heap.size + 1]? = some (.cells #[.int .i64 kind, .int .i64 frm, .int .i64 tto, .string key, .int .i64 serial, .int .i64 ver, .int .i64 age, .int .i64 pres, .string val] 23 (0, 0)) := by rw [← hW]; exact new2_1 _ _ _
  clear hW
  refine (unhide KD W0 ((T0.block nb hnb id).trans (unhide HBn))).mono ?_
  rintro r W1 ⟨rfl, T1, cur', hb1, hsz1, htk1⟩
  have hnw : ∀ {b : Nat}, w.heap.size ≤ b → ¬ b = nb := fun h e => by omega
  have hbt1 : W1.heap[bt]? = some (.cells (s.ts g).cells 97 (0, 0)) := (T1.block bt (by omega) (fun e => hne e.symm)).trans ((T0.block bt hbt id).trans (unhide HB))
  have q15 : W1.cell? ⟨bt, 15, none⟩ = some g.nv := cell_of_cells hbt1 15
  have q15f : W1.frozen? ⟨bt, 15, none⟩ = false := frozen_of_cells hbt1 15
  have hr0' := (T1.block w.heap.size (by omega) (hnw (Nat.le_refl _))).trans hr0
  have hr1' := (T1.block (w.heap.size + 1) (by omega) (hnw (by omega))).trans hr1
  have z0 := cell_of_cells hr1' 0
  have z1 := cell_of_cells hr1' 1
  have z2 := cell_of_cells hr1' 2
  have z3 := cell_of_cells hr1' 3
  have z4 := cell_of_cells hr1' 4
  have z5 := cell_of_cells hr1' 5
  have z6 := cell_of_cells hr1' 6
  have z7 := cell_of_cells hr1' 7
  have z8 := cell_of_cells hr1' 8
  have o0 := cell_of_cells hr0' 0
  have o1 := cell_of_cells hr0' 1
  have o2 := cell_of_cells hr0' 2
  have o3 := cell_of_cells hr0' 3
  have o4 := cell_of_cells hr0' 4
  have o5 := cell_of_cells hr0' 5
  have o6 := cell_of_cells hr0' 6
  have o7 := cell_of_cells hr0' 7
  have o8 := cell_of_cells hr0' 8
  have ofr : ∀ i, W1.frozen? ⟨w.heap.size, i, none⟩ = false := fun i => frozen_of_cells hr0' i
  have e0 : ¬ bt = w.heap.size := by omega
  have e1 : ¬ bt = w.heap.size + 1 := by omega
  have HT1 := hide (And.intro T0 (And.intro T1 (And.intro hb1 (And.intro hsz1 (And.intro htk1 hbt1)))))
  clear T1 hb1 hsz1 htk1 hr0 hr1 hr0' hr1' hbt1 c0 c1 c2 c3 c4 c5 c6 c7 c8 d15 e15 T0
  go_wp2
  obtain ⟨T0, T1, hb1, hsz1, htk1, hbt1⟩ := unhide HT1
  have TY : Turn (fun k => k = nb ∨ k = bt) w (W1.setCell ⟨bt, 15, none⟩ (.slice (some ⟨nb, 0, none⟩) (n - 1) nc)) := (((T0.mono (fun _ _ h => h.elim)).step_turn T1 (fun _ _ h => Or.inl h))).step_set (Or.inr (Or.inr rfl))
  obtain ⟨LY, SY⟩ := unhide HT (W1.setCell ⟨bt, 15, none⟩ (.slice (some ⟨nb, 0, none⟩) (n - 1) nc)) cur' TY ((heap_setCell_other hne).trans hb1) hsz1 htk1 (by rw [heap_set hbt1]; rfl)
  have hnone : own w.heap.size = none := unhide htop _ (Nat.le_refl _)
  have HE := hide (And.intro (((((((((LY.scratch hnone (i := 0) (v := .int .i64 kind)).scratch hnone (i := 1) (v := .int .i64 frm)).scratch hnone (i := 2) (v := .int .i64 tto)).scratch hnone (i := 3) (v := .string key)).scratch hnone (i := 4) (v := .int .i64 serial)).scratch hnone (i := 5) (v := .int .i64 ver)).scratch hnone (i := 6) (v := .int .i64 age)).scratch hnone (i := 7) (v := .int .i64 pres)).scratch hnone (i := 8) (v := .string val)) (Step.mk (τ := τ) (own := own) (own' := own) (((((((((SY.turn.step_set (p := ⟨w.heap.size, 0, none⟩) (v := .int .i64 kind) (Or.inl (Nat.le_refl _))).step_set (p := ⟨w.heap.size, 1, none⟩) (v := .int .i64 frm) (Or.inl (Nat.le_refl _))).step_set (p := ⟨w.heap.size, 2, none⟩) (v := .int .i64 tto) (Or.inl (Nat.le_refl _))).step_set (p := ⟨w.heap.size, 3, none⟩) (v := .string key) (Or.inl (Nat.le_refl _))).step_set (p := ⟨w.heap.size, 4, none⟩) (v := .int .i64 serial) (Or.inl (Nat.le_refl _))).step_set (p := ⟨w.heap.size, 5, none⟩) (v := .int .i64 ver) (Or.inl (Nat.le_refl _))).step_set (p := ⟨w.heap.size, 6, none⟩) (v := .int .i64 age) (Or.inl (Nat.le_refl _))).step_set (p := ⟨w.heap.size, 7, none⟩) (v := .int .i64 pres) (Or.inl (Nat.le_refl _))).step_set (p := ⟨w.heap.size, 8, none⟩) (v := .string val) (Or.inl (Nat.le_refl _))) (fun _ _ => Or.inl rfl)))
  clear LY SY TY HT1 HT KD T0 T1 hb1 hsz1 htk1 hbt1
  exact bodyPost_ret (v := .agg #[.int .i64 kind, .int .i64 frm, .int .i64 tto, .string key, .int .i64 serial, .int .i64 ver, .int .i64 age, .int .i64 pres, .string val]) (by simp [results, Tryd.results81, go_sem, o0, o1, o2, o3, o4, o5, o6, o7, o8]) rfl ⟨rfl, _, (unhide HE).1, (unhide HE).2, ⟨rfl, rfl, rfl, rfl, rfl, rfl⟩⟩

end Go.Proofs.YtpdkojgepagbnaaDoor
