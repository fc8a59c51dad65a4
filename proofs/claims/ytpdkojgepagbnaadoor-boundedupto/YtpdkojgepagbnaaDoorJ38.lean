/-
  Every step of a script.
  Nobody who asked is forgotten where nobody crashes; how many wait; when all fetches have ended, nobody waits.
  A cache's keys, in a fresh list.
  A cache's entries, told in a fresh list.
-/
import Derived.Test.YtpdkojgepagbnaaDoorJ37
import Derived.Test.YtpdkojgepagbnaaDoorJ28
namespace Go.Proofs.YtpdkojgepagbnaaDoor
set_option maxRecDepth 100000
open Go.RowKit
open Tier (Mes Ans Conf St Was)

variable {n0 : Nat} {own own' : Own} {w w' : World} {bs b : Nat} {t t' : St} {h h' : Sh}

/-- What a step wants of the play so far. -/
structure StepOK (o : StepD) (h : Sh) (t : St) : Prop where
  a : I64 o.a
  b : I64 o.b
  siz : ∃ n, Siz n h ∧ n ≤ 10000000000
  few : t.items.length < 16
  pres : (lastOf h.l (keyD o.a)).pres = (t.item (keyD o.a)).pres
  clk : ∀ j, j < h.clocks.length → 0 ≤ h.clocks.getD j 0 ∧ h.clocks.getD j 0 ≤ 1099511627776
  len : h.clocks.length = t.c.parents.length

theorem step_any (S : Shop n0 own w bs b t h) (hn : n0 ≤ w.heap.size) (hb : b + 500010 ≤ 1000000000000) (o : StepD) (k : StepOK o h t) :
    Calls Tryd.prog 17 #[.pointer (some ⟨bs, 0, none⟩), stepV o] w fun e w' => e = .returned (.bool true) ∧ Behind n0 own w bs (b + 500000) (stepF o h t).2 (stepF o h t).1 w' := by
  obtain ⟨n, sz, hn9⟩ := k.siz
  have hl := sz.l
  have hol := sz.opn
  have hnow := sz.now
  have hver := sz.last (keyD o.a)
  have up : ∀ {t2 : St} {h2 : Sh} {w2 : World}, Behind n0 own w bs (b + 5) t2 h2 w2 → Behind n0 own w bs (b + 500000) t2 h2 w2 := fun ⟨o2, S2, K2⟩ => ⟨o2, S2.mono (by omega), K2⟩
  by_cases k2 : o.kind = 2
  · exact step_pass S hn hb o k2 k.a k.b k.clk k.len (by omega)
  unfold stepF
  by_cases k0 : o.kind = 0
  · rw [if_pos k0]
    refine (step_write S hn (by omega) o k0 k.a (by omega) (by omega) k.few).mono ?_
    rintro e w2 ⟨rfl, B⟩
    exact ⟨rfl, up B⟩
  rw [if_neg k0]
  by_cases k1 : o.kind = 1
  · rw [if_pos k1]
    by_cases hp : (lastOf h.l (keyD o.a)).pres = 0
    · rw [if_pos hp]
      refine (step_remove0 S hn (by omega) o k1 k.a (by omega) (by omega) (by rw [← k.pres]; exact hp) hp).mono ?_
      rintro e w2 ⟨rfl, B⟩
      exact ⟨rfl, up B⟩
    · rw [if_neg hp]
      refine (step_remove1 S hn (by omega) o k1 k.a (by omega) (by omega) (by rw [← k.pres]; exact hp) hp).mono ?_
      rintro e w2 ⟨rfl, B⟩
      exact ⟨rfl, up B⟩
  rw [if_neg k1, if_neg k2]
  by_cases k3 : o.kind = 3
  · rw [if_pos k3]
    exact step_ask S hn hb o k3 k.a k.b (by omega)
  rw [if_neg k3]
  by_cases k4 : o.kind = 4 ∨ o.kind = 5 ∨ o.kind = 6
  · rw [if_pos k4]
    exact step_net S hn hb o k4 k.a
  rw [if_neg k4]
  by_cases k7 : o.kind = 7
  · rw [if_pos k7]
    exact step_timeout S hn hb o k7 k.a k.b
  rw [if_neg k7]
  by_cases k8 : o.kind = 8
  · rw [if_pos k8]
    exact step_crash S hn hb o k8 k.a k.b
  rw [if_neg k8]
  by_cases k9 : o.kind = 9
  · rw [if_pos k9]
    exact step_settle S hn hb o k9 k.a k.b
  rw [if_neg k9]
  exact step_other S o (by omega)

end Go.Proofs.YtpdkojgepagbnaaDoor

namespace Go.Proofs.YtpdkojgepagbnaaDoor
open Tier (Mes Ans Conf St Kept Wtr Ftc Cac Item Was)

variable {tm : Prop} {script : List StepD} {i : Nat} {h : Sh} {t : St}

/-- Who has no answer yet waits, or is just answered. -/
def Full (h : Sh) (t : St) : Prop := ∀ id : Int, 0 ≤ id → h.opn[id.toNat]? = some true → 1 ≤ Tier.cnt id t

theorem Full.same {u : St} {h' : Sh} (f : Full h t) (hc : ∀ id, Tier.cnt id u = Tier.cnt id t) (ho : h'.opn = h.opn) : Full h' u := fun id h0 h1 => by
  rw [hc id]; exact f id h0 (by rw [← ho]; exact h1)

theorem cnt_comes (m : Mid tm script i h t) {j : Nat} {x : Mes} (hx : t.net[j]? = some x) (id : Int) : Tier.cnt id ((t.taken j).comes x) = Tier.cnt id t := by
  have hmem := List.mem_of_getElem? hx
  obtain ⟨g0, I0, _⟩ := m.inv
  have hpm := I0.says.net x hmem
  have hz := m.size
  exact (Tier.comes_ok (t := t.taken j) (Tier.neat_of m.neat rfl rfl) m.room x ⟨hpm.2.2.1, by show x.to < (t.caches.length : Int); rw [hz, I0.conf]; exact hpm.2.2.2.1⟩ (fun e => (hpm.2.2.2.2.2.1 e).1)).2 id

theorem cnt_net (m : Mid tm script i h t) (o : StepD) (id : Int) : Tier.cnt id (netF o t) = Tier.cnt id t := by
  unfold netF
  split
  · rfl
  · next x hx =>
    split
    · exact cnt_comes m hx id
    · split
      · rfl
      · split <;> rfl
theorem cnt_settle : ∀ (j : Nat) {t : St}, Mid tm script i h t → ∀ id, Tier.cnt id (settleF j t).1 = Tier.cnt id t
  | 0, _, _, _ => rfl
  | j + 1, t, m, id => by
    unfold settleF
    split
    · rfl
    · next x r hn =>
      have hx : t.net[0]? = some x := by rw [hn]; rfl
      rw [cnt_settle j (m.comes hx) id]
      exact cnt_comes m hx id

theorem cnt_tick {n : Nat} (hn : n < t.caches.length) (c id : Int) : Tier.cnt id (t.tick n c) = Tier.cnt id t := by
  unfold Tier.cnt
  rw [show Tier.cc id (t.tick n c).caches = Tier.cc id t.caches from Tier.cnt_set_same id t n _ hn rfl]
  rfl
theorem cnt_pass (drift d b : Int) : ∀ (f k : Nat) (cl : List Int) (t : St), k + f ≤ t.caches.length → ∀ id, Tier.cnt id (passF drift d b f k cl t).2 = Tier.cnt id t
  | 0, _, _, _, _, _ => rfl
  | f + 1, k, cl, t, hk, id => by
    unfold passF
    split
    · rfl
    · rw [cnt_pass drift d b f (k + 1) _ _ (by show k + 1 + f ≤ (t.caches.set k _).length; rw [List.length_set]; omega) id]
      exact cnt_tick (by omega) _ id

/-- Every step but a crash. -/
theorem Full.step (f : Full h t) (m : Mid tm script i h t) (hp : 2 ≤ t.c.parents.length) (hl : h.clocks.length ≤ t.c.parents.length) {o : StepD} (k8 : o.kind ≠ 8) : Full (stepF o h t).1 (stepF o h t).2 := by
  have hca := cacheD_ok hp o.a
  have hz := m.size
  unfold stepF
  by_cases k0 : o.kind = 0
  · rw [if_pos k0]; exact f.same (fun _ => rfl) rfl
  rw [if_neg k0]
  by_cases k1 : o.kind = 1
  · rw [if_pos k1]
    split
    · exact f
    · exact f.same (fun _ => rfl) rfl
  rw [if_neg k1]
  by_cases k2 : o.kind = 2
  · rw [if_pos k2]
    exact f.same (fun id => cnt_pass _ _ _ _ _ _ _ (by omega) id) rfl
  rw [if_neg k2]
  by_cases k3 : o.kind = 3
  · rw [if_pos k3]
    obtain ⟨_, w2⟩ := Tier.wants_ok m.neat (cacheD t.c o.a) (by rw [hz]; exact hca.2) m.room (keyD o.b) ⟨-1, h.opn.length, 0, 0⟩
    intro id h0 h1
    rw [w2 id]
    have h1 : (h.opn ++ [true])[id.toNat]? = some true := h1
    by_cases e : id.toNat < h.opn.length
    · rw [List.getElem?_append_left e] at h1
      exact Nat.le_trans (f id h0 h1) (Nat.le_add_right _ _)
    · have e2 : id.toNat = h.opn.length := by
        have := (List.getElem?_eq_some_iff.1 h1).1
        rw [List.length_append] at this
        simp at this
        omega
      have e3 : (h.opn.length : Int) = id := by omega
      have : Tier.one id ⟨-1, h.opn.length, 0, 0⟩ = 1 := by
        unfold Tier.one Tier.isC
        simp [e3]
      omega
  rw [if_neg k3]
  split
  · exact f.same (cnt_net m o) rfl
  · split
    · exact f.same (Tier.timeout_ok m.neat _ (by rw [hz]; exact hca.2) _).2 rfl
    · split
      · exact f.same (cnt_settle 100000 m) rfl
      · exact f

/-- Behind the answers. -/
theorem Full.answers (f : Full h t) : Full { h with opn := shut h.opn t.answers } { t with answers := [] } := fun id h0 h1 => by
  obtain ⟨h2, h3⟩ := shut_true (l := h.opn) (m := id.toNat) (a := t.answers) h1
  have h4 : 1 ≤ Tier.cc id t.caches + Tier.ca id t.answers := f id h0 h2
  have h5 : Tier.ca id t.answers = 0 := by
    unfold Tier.ca
    rw [List.countP_eq_zero]
    intro a ha e
    have e : a.id = id := of_decide_eq_true e
    exact h3 a ha (by rw [e])
  show 1 ≤ Tier.cc id t.caches + 0
  omega

/-! ### how many wait -/
theorem cf_mem {id : Int} : ∀ {l : List Ftc}, 1 ≤ Tier.cf id l → ∃ f ∈ l, ∃ w ∈ f.l, w.node < 0 ∧ w.id = id
  | [], h => by simp [Tier.cf] at h
  | f :: r, h => by
    by_cases hc : 1 ≤ Tier.cl id f.l
    · obtain ⟨w, hw, e⟩ := List.countP_pos_iff.1 hc
      unfold Tier.isC at e
      simp at e
      exact ⟨f, List.mem_cons_self, w, hw, e.1, e.2⟩
    · have : Tier.cf id (f :: r) = Tier.cl id f.l + Tier.cf id r := by simp [Tier.cf]
      obtain ⟨f', hf, w, hw, e⟩ := cf_mem (id := id) (l := r) (by omega)
      exact ⟨f', List.mem_cons_of_mem _ hf, w, hw, e⟩
theorem cc_mem {id : Int} : ∀ {l : List Cac}, 1 ≤ Tier.cc id l → ∃ n, n < l.length ∧ 1 ≤ Tier.cf id (l.getD n Tier.noCac).fts
  | [], h => by simp [Tier.cc] at h
  | c :: r, h => by
    by_cases hc : 1 ≤ Tier.cf id c.fts
    · exact ⟨0, by simp, hc⟩
    · have : Tier.cc id (c :: r) = Tier.cf id c.fts + Tier.cc id r := by simp [Tier.cc]
      obtain ⟨n, hn, e⟩ := cc_mem (id := id) (l := r) (by omega)
      exact ⟨n + 1, by simp; omega, e⟩

/-- Who waits at all waits at the one cache, for the key that it asked for. -/
theorem Mid.waits1 (m : Mid tm script i h t) (hp : t.c.parents.length = 2) {id : Int} (h0 : 0 ≤ id) (h1 : id < h.opn.length) (hc : 1 ≤ Tier.cc id t.caches) : ∃ f ∈ (t.cac 1).fts, f.key = askedF script 0 id ∧ ∃ w ∈ f.l, w.id = id := by
  obtain ⟨g, I, _, _, _, _, hkid⟩ := m.inv
  obtain ⟨n, hn, hcf⟩ := cc_mem hc
  obtain ⟨f, hf, w, hw, e1, e2⟩ := cf_mem hcf
  have hf : f ∈ (t.cac n).fts := hf
  have hpf := I.says.fts n f hf
  have hlen : g.c.parents.length = 2 := by rw [← I.conf]; exact hp
  have hn1 : n = 1 := by have := hpf.1; omega
  subst hn1
  refine ⟨f, hf, ?_, w, hw, e2⟩
  have := (hpf.2.2.2.2 w hw).1 e1
  rw [← this, e2, hkid id h0 h1]

theorem subset_len {l k : List Int} (hn : l.Nodup) (hs : ∀ x ∈ l, x ∈ k) : l.length ≤ k.length := by
  induction l generalizing k with
  | nil => exact Nat.zero_le _
  | cons x r ih =>
    have hx := hs x List.mem_cons_self
    have hnr := List.nodup_cons.1 hn
    have := ih (k := k.erase x) hnr.2 (fun y hy => by
      have hyk := hs y (List.mem_cons_of_mem _ hy)
      have hne : y ≠ x := fun e => hnr.1 (by rw [← e]; exact hy)
      exact (List.mem_erase_of_ne hne).2 hyk)
    rw [List.length_erase_of_mem hx] at this
    have : 0 < k.length := List.length_pos_of_mem hx
    simp only [List.length_cons]
    omega

/-- The ids that are open from j on. -/
def openIds : Nat → List Bool → List Int
  | _, [] => []
  | j, b :: r => if b then (j : Int) :: openIds (j + 1) r else openIds (j + 1) r
theorem openIds_mem : ∀ (l : List Bool) (j : Nat) (x : Int), x ∈ openIds j l → (j : Int) ≤ x ∧ l[x.toNat - j]? = some true
  | [], _, _, h => by cases h
  | b :: r, j, x, h => by
    unfold openIds at h
    cases b with
    | true =>
      rw [if_pos rfl] at h
      rcases List.mem_cons.1 h with rfl | h
      · exact ⟨Int.le_refl _, by rw [show ((j : Int)).toNat - j = 0 by omega]; rfl⟩
      · obtain ⟨h1, h2⟩ := openIds_mem r (j + 1) x h
        refine ⟨by omega, ?_⟩
        rw [show x.toNat - j = (x.toNat - (j + 1)) + 1 by omega]
        exact h2
    | false =>
      rw [if_neg (by decide)] at h
      obtain ⟨h1, h2⟩ := openIds_mem r (j + 1) x h
      refine ⟨by omega, ?_⟩
      rw [show x.toNat - j = (x.toNat - (j + 1)) + 1 by omega]
      exact h2
theorem openIds_nodup : ∀ (l : List Bool) (j : Nat), (openIds j l).Nodup
  | [], _ => List.nodup_nil
  | b :: r, j => by
    unfold openIds
    split
    · refine List.nodup_cons.2 ⟨fun h => ?_, openIds_nodup r (j + 1)⟩
      have := (openIds_mem r (j + 1) _ h).1
      omega
    · exact openIds_nodup r (j + 1)
theorem openIds_length : ∀ (l : List Bool) (j : Nat), (openIds j l).length = l.countP fun b => b
  | [], _ => rfl
  | b :: r, j => by
    unfold openIds
    cases b with
    | true => rw [if_pos rfl, List.length_cons, openIds_length r, List.countP_cons_of_pos rfl]
    | false => rw [if_neg (by decide), openIds_length r, List.countP_cons_of_neg (by decide)]

theorem wl_flat : ∀ (l : List Ftc), (l.flatMap fun f => f.l.map fun w => w.id).length = Tier.wl l
  | [] => rfl
  | f :: r => by
    rw [List.flatMap_cons, List.length_append, wl_flat r, List.length_map]
    simp [Tier.wl]

/-- No more wait than may. -/
theorem Kin.few (k : Kin tm script i h t) (f : Full h t) (hp : t.c.parents.length = 2) : ((h.opn.countP fun b => b : Nat) : Int) ≤ t.c.waiters := by
  have hw := (k.mid.neat 1).wait
  have := subset_len (l := openIds 0 h.opn) (k := (t.cac 1).fts.flatMap fun f => f.l.map fun w => w.id) (openIds_nodup _ _) (fun x hx => by
    obtain ⟨h0, h1⟩ := openIds_mem _ _ _ hx
    rw [Nat.sub_zero] at h1
    have hlt := (List.getElem?_eq_some_iff.1 h1).1
    have hc : 1 ≤ Tier.cc x t.caches + Tier.ca x t.answers := f x (by omega) h1
    rw [k.ans] at hc
    obtain ⟨g, hg, _, w, hw, e⟩ := k.mid.waits1 hp (by omega) (by omega) (show 1 ≤ Tier.cc x t.caches from hc)
    exact List.mem_flatMap.2 ⟨g, hg, List.mem_map.2 ⟨w, hw, e⟩⟩)
  rw [openIds_length, wl_flat] at this
  omega

/-! ### all fetches end -/
theorem askedF_key : ∀ (l : List StepD) (n id : Int), n ≤ id → id < n + asks l → ∃ r, askedF l n id = keyD r
  | [], n, id, h0, h1 => by simp [asks] at h1; omega
  | o :: r, n, id, h0, h1 => by
    unfold askedF
    by_cases e : o.kind = 3
    · rw [if_pos e]
      by_cases e2 : n = id
      · rw [if_pos e2]; exact ⟨o.b, rfl⟩
      · rw [if_neg e2]
        have : asks (o :: r) = asks r + 1 := by unfold asks; rw [List.filter_cons_of_pos (by simpa using e)]; rfl
        exact askedF_key r (n + 1) id (by omega) (by rw [this] at h1; omega)
    · rw [if_neg e]
      have : asks (o :: r) = asks r := by unfold asks; rw [List.filter_cons_of_neg (by simpa using e)]
      exact askedF_key r n id h0 (by rw [this] at h1; exact h1)
theorem asks_le (l : List StepD) (i : Nat) : asks (l.take i) ≤ asks l := ((List.take_sublist i l).filter _).length_le

theorem cac_refuseAll (n : Nat) (k : ByteArray) : ∀ (l : List Wtr) (t : St), (t.refuseAll n k l).caches = t.caches
  | [], _ => rfl
  | w :: r, t => by
    show ((t.refused n k w).refuseAll n k r).caches = _
    rw [cac_refuseAll n k r, Tier.len_refused]
theorem timeout_fts {n : Nat} (hn : n < t.caches.length) (k : ByteArray) : ∀ f ∈ ((t.timeout n k).cac n).fts, f ∈ (t.cac n).fts ∧ f.key ≠ k := by
  intro f hf
  unfold Tier.St.timeout at hf
  split at hf
  · next hnone =>
    exact ⟨hf, Tier.no_fetch (by rw [hnone]; rfl) f hf⟩
  · next g hg =>
    unfold Tier.St.cac at hf
    rw [cac_refuseAll] at hf
    have hf : f ∈ ((t.over n k).cac n).fts := hf
    rw [Tier.cac_over hn] at hf
    have := List.mem_filter.1 hf
    exact ⟨this.1, of_decide_eq_true this.2⟩

/-- The first k keys' fetches are ended. -/
def endF : Nat → St → St
  | 0, t => t
  | k + 1, t => (endF k t).timeout 1 (keyD (k : Int))
theorem c_end : ∀ (k : Nat) (t : St), (endF k t).c = t.c
  | 0, _ => rfl
  | k + 1, t => by
    show ((endF k t).timeout 1 _).c = _
    rw [c_timeout, c_end k t]
theorem Mid.ends (hp : t.c.parents.length = 2) (m : Mid tm script i h t) (f : Full h t) : ∀ k, Mid tm script i h (endF k t) ∧ Full h (endF k t) ∧ ∀ g ∈ ((endF k t).cac 1).fts, ∀ j : Nat, j < k → g.key ≠ keyD (j : Int)
  | 0 => ⟨m, f, fun _ _ j hj => by omega⟩
  | k + 1 => by
    obtain ⟨m1, f1, h1⟩ := Mid.ends hp m f k
    have hp1 : (endF k t).c.parents.length = 2 := by rw [c_end]; exact hp
    have hz : 1 < (endF k t).caches.length := by rw [m1.size, hp1]; decide
    refine ⟨m1.timeout (by rw [hp1]; decide) _, f1.same (Tier.timeout_ok m1.neat 1 hz _).2 rfl, fun g hg j hj => ?_⟩
    obtain ⟨g1, g2⟩ := timeout_fts hz _ g hg
    by_cases e : j = k
    · subst e; exact g2
    · exact h1 g g1 j (by omega)

theorem keyD_four (raw : Int) : ∃ j : Nat, j < 4 ∧ keyD raw = keyD (j : Int) := by
  have hp := pickN_ok raw (n := 4) (by decide)
  refine ⟨(pickN raw 4).toNat, by omega, ?_⟩
  unfold keyD
  have : ∀ j : Nat, j < 4 → pickN (j : Int) 4 = (j : Int) := by
    intro j hj
    have : j = 0 ∨ j = 1 ∨ j = 2 ∨ j = 3 := by omega
    rcases this with rfl | rfl | rfl | rfl <;> decide
  rw [this _ (by omega)]
  rfl

/-- When they have ended, all are answered. -/
theorem Mid.ended (m : Mid tm script i h t) (f : Full h t) (hp : t.c.parents.length = 2) (j : Nat) : (shut h.opn (endF 4 t).answers)[j]? ≠ some true := fun hj => by
  obtain ⟨m1, f1, h1⟩ := Mid.ends hp m f 4
  obtain ⟨h2, h3⟩ := shut_true hj
  have hlt := (List.getElem?_eq_some_iff.1 h2).1
  have hc : 1 ≤ Tier.cc (j : Int) (endF 4 t).caches + Tier.ca (j : Int) (endF 4 t).answers := f1 (j : Int) (by omega) h2
  have hca : Tier.ca (j : Int) (endF 4 t).answers = 0 := by
    unfold Tier.ca
    rw [List.countP_eq_zero]
    intro a ha e
    have e : a.id = (j : Int) := of_decide_eq_true e
    exact h3 a ha (by rw [e]; rfl)
  obtain ⟨g, hg, hk, _⟩ := m1.waits1 (by rw [c_end]; exact hp) (id := (j : Int)) (by omega) (by omega) (by omega)
  have hids := m.ids
  have hle := asks_le script i
  obtain ⟨r, hr⟩ := askedF_key script 0 (j : Int) (by omega) (by omega)
  obtain ⟨q, hq, e⟩ := keyD_four r
  exact h1 g hg q hq (by rw [hk, hr, e])

end Go.Proofs.YtpdkojgepagbnaaDoor

namespace Go.Proofs.YtpdkojgepagbnaaDoor
set_option maxRecDepth 100000
open Go.RowKit
open Tier (Mes Ans Conf)
attribute [local go_sem ↓] Go.wp_at_zero Go.wp_at_succ

theorem flat_strs : ∀ (l : List ByteArray), (l.map fun k => [Value.string k]).flatten = l.map fun k => Value.string k
  | [] => rfl
  | a :: r => by
    rw [List.map_cons, List.map_cons, List.flatten_cons, flat_strs r]
    rfl

set_option maxHeartbeats 2000000 in
theorem Keys_any (own : Own) (τ bt : Nat) (g : Gh) (s : PS) (n : Nat) (w : World) (h : Lies own τ w bt g s) (hn : n < 6) (hl : (s.used n).length ≤ 1000) :
    Calls Tryd.prog 54 #[.pointer (some ⟨g.be, 0, none⟩), .int .i64 (n : Int)] w fun r w' => ∃ v', r = .returned v' ∧ Turn nothing w w' ∧ w'.ownsRow w.heap.size 9 1 v' (s.used n).length ((s.used n).map fun k => .string k) := by
  have hrow := (h.used n hn).row
  have dn := h.usedCell hn
  have hfl := flat_strs (s.used n)
  rw [List.length_map, hfl] at hrow
  have KC := hide (fun w' (T : Turn nothing w w') => Clone_str (g.u n) (s.used n).length ((s.used n).map fun k => Value.string k) w' (by
    have h2 := ((h.turn T).used n hn).row
    rw [List.length_map, hfl] at h2
    exact h2) (by intro u hu; obtain ⟨x, _, rfl⟩ := List.mem_map.1 hu; rfl) (by omega))
  generalize g.u n = uv at *
  have hbe : g.be < w.heap.size := heap_lt h.ents
  clear h hrow hfl
  generalize (s.used n).length = m at *
  generalize (s.used n).map (fun k => Value.string k) = xs at *
  have i0 : (0 : Int) ≤ (n : Int) := by omega
  have i1 : (n : Int) < 6 := by omega
  go_enter Tryd.func54, Tryd.ntmps54
  go_wp2_with fail
  refine (unhide KC w (Turn.refl _ _)).mono ?_
  rintro e w1 ⟨v', rfl, T1, R1⟩
  have HT := hide T1
  have HR := hide R1
  clear T1 R1 KC
  go_wp2
  go_ret
  exact ⟨_, rfl, unhide HT, unhide HR⟩

end Go.Proofs.YtpdkojgepagbnaaDoor

namespace Go.Proofs.YtpdkojgepagbnaaDoor
set_option maxRecDepth 100000
open Go.RowKit
open Tier (Mes Ans Conf)
attribute [local go_sem ↓] Go.wp_at_zero Go.wp_at_succ

def seeL (e : See) : List Value := [.string e.key, .int .i64 e.ver, .int .i64 e.pres, .string e.val, .int .i64 e.age]
theorem infoSee : (Tryd.prog.info? 71).map (fun i => (i.zero, i.size, i.bytes)) = some (some (.agg #[.string ⟨#[]⟩, .int .i64 0, .int .i64 0, .string ⟨#[]⟩, .int .i64 0]), 5, 56) := by kernel_rfl

/-- While the entries are told: the list so far. -/
structure EntLoop (w1 wr : World) (v : Value) (L : List See) : Prop where
  turn : Turn nothing w1 wr
  row : wr.ownsRow w1.heap.size 71 5 v L.length ((L.map seeL).flatten)

theorem owns_base' {w : World} {base base' e s n : Nat} {v : Value} {xs : List Value} (h : w.ownsRow base e s v n xs) (hb : base' ≤ base) : w.ownsRow base' e s v n xs := by
  obtain ⟨hl, hv⟩ := h
  refine ⟨hl, ?_⟩
  rcases hv with hv | ⟨g, cap, cur, h1, h2, h3⟩
  · exact Or.inl hv
  · exact Or.inr ⟨g, cap, cur, h1, Nat.le_trans hb h2, h3⟩
theorem owns_turn' {w w' : World} {base e s n : Nat} {v : Value} {xs : List Value} (h : w.ownsRow base e s v n xs) (T : Turn nothing w w') : w'.ownsRow base e s v n xs := by
  obtain ⟨hl, hv⟩ := h
  refine ⟨hl, ?_⟩
  rcases hv with hv | ⟨g, cap, cur, h1, h2, h3, h4⟩
  · exact Or.inl hv
  · exact Or.inr ⟨g, cap, cur, h1, h2, (T.block g (heap_lt h3) id).trans h3, h4⟩

set_option maxHeartbeats 8000000 in
theorem Entries_any (own : Own) (τ bt : Nat) (g : Gh) (s : PS) (n : Nat) (w : World) (h : Lies own τ w bt g s) (hf : s.Fine) (hn : n < 6) (hp : s.c.parents.length ≤ 6) (hc : Nums.inB (n : Int) 1 ((s.c.parents.length : Int) - 1) = true) (hl : (s.used n).length ≤ 1000) (hk : ∀ k ∈ s.used n, k.size ≤ 100) (hne : noEnt.Fine (s.clk n)) :
    Calls Tryd.prog 28 #[.pointer (some ⟨bt, 0, none⟩), .int .i64 (n : Int)] w fun r w' => ∃ (v : Value) (L : List See), r = .returned (.tuple #[v, .int .i64 0]) ∧ Turn nothing w w' ∧ w'.ownsRow w.heap.size 71 5 v L.length ((L.map seeL).flatten) ∧ L.map See.key = s.used n := by
  obtain ⟨i0, hi, hz0, hz1, hz2⟩ := info_parts infoSee
  have HH := hide h
  have KC := hide (isCache_any own τ bt g s (n : Int) w h hp)
  rw [hc] at KC
  have KK := hide (fun w' (T : Turn nothing w w') => Keys_any own τ bt g s n w' (h.turn T) hn hl)
  have d12 : w.cell? ⟨bt, 12, none⟩ = some (.pointer (some ⟨g.be, 0, none⟩)) := cell_of_cells h.tier.block 12
  have KA : Hid (∀ k, k ∈ s.used n → ∃ e : Ent, ∃ b : Bool, e.Fine (s.clk n) ∧ ∀ w', Turn nothing w w' → Calls Tryd.prog 55 #[.pointer (some ⟨g.be, 0, none⟩), placeV (n, k)] w' fun e' w'' => e' = .returned (.tuple #[entV e, .bool b]) ∧ Turn nothing w' w'') := fun k hkm => by
    refine ⟨(s.entry n k).getD noEnt, (s.entry n k).isSome, ?_, fun w' T => At_lies n k w' (h.turn T) (by omega) (hk k hkm)⟩
    cases he : s.entry n k with
    | none => exact hne
    | some e => exact (hf.ents _ (aget_mem he)).1
  have KS : Hid (∀ (e : Ent) (k : ByteArray), e.Fine (s.clk n) → ∀ w', Turn nothing w w' → Calls Tryd.prog 56 #[.pointer (some ⟨bt, 0, none⟩), placeV (n, k), entV e] w' fun r w'' => r = .returned (seeV (seen k e (ageAt s.c.drift (s.clk n) e))) ∧ Turn nothing w' w'') := fun e k he w' T => shown_any bt (s.ts g) n k e w' (h.turn T).tier (hf.ts g) hn he
  have hbt := heap_lt h.tier.block
  clear h hf hk hne hc hp
  go_enter Tryd.func28, Tryd.ntmps28
  go_wp2_with fail
  refine (unhide KC).mono ?_
  rintro e w0 ⟨rfl, rfl⟩
  go_wp2_with fail
  refine (unhide KK w0 (Turn.refl _ _)).mono ?_
  rintro e w1 ⟨kv, rfl, T1, R1⟩
  obtain ⟨ka, kc, hkv⟩ := row_form R1
  subst hkv
  have HT1 := hide T1
  have d1 := T1.cell d12 id
  have hkey : Hid (∀ j k, (s.used n)[j]? = some k → ∃ kb, ka = some ⟨kb, 0, none⟩ ∧ w1.cell? ⟨kb, j, none⟩ = some (.string k)) := fun j k hj => by
    have hjl := (List.getElem?_eq_some_iff.1 hj).1
    obtain ⟨_, ⟨_, h0⟩ | ⟨kb, cap', cur, hv, _⟩⟩ := id R1
    · omega
    · cases hv
      refine ⟨kb, rfl, ?_⟩
      rw [R1.cellAt j (by omega), List.getElem?_map, hj]; rfl
  have HR0 : Hid (EntLoop w1 w1 (.slice none 0 0) []) := ⟨Turn.refl _ _, World.ownsRow_nil _ _ _ _⟩
  have hb1 : bt < w1.heap.size := Nat.lt_of_lt_of_le hbt T1.size
  generalize hN : (s.used n).length = N at *
  clear T1 R1 KC KK d12 hbt
  go_wp2
  go_loopw [6, 8, 9, 10, 11, 23] (fun v _ _ _ _ i wr => ∃ (j : Nat) (L : List See), j ≤ N ∧ i = .int .i64 (j : Int) ∧ Hid (EntLoop w1 wr v L) ∧ Hid (L.map See.key = (s.used n).take j)) (fun _ _ _ _ _ i _ => N - (intOf i).toNat)
  case atStart => exact ⟨0, [], Nat.zero_le _, rfl, HR0, rfl⟩
  case round =>
    clear HR0
    obtain ⟨j, L, jn, rfl, HR, HL⟩ := hrel
    have hj6 : IntKind.i64.wrap ((j : Int) + 1) = (j : Int) + 1 := by rw [IntKind.wrap_i64]; omega
    by_cases hlt : j < N
    · obtain ⟨va, vc, hv⟩ := row_form (unhide HR).row
      subst hv
      have hLl : Hid (L.length = j) := by
        show L.length = j
        have := congrArg List.length (unhide HL)
        rw [List.length_map, List.length_take, hN] at this
        omega
      obtain ⟨k, hk⟩ : ∃ k, (s.used n)[j]? = some k := ⟨_, List.getElem?_eq_getElem (by omega)⟩
      obtain ⟨kb, rfl, hkc⟩ := unhide hkey j k hk
      have hkr : wr.cell? ⟨kb, j, none⟩ = some (.string k) := (unhide HR).turn.cell hkc id
      have d2 : wr.cell? ⟨bt, 12, none⟩ = some (.pointer (some ⟨g.be, 0, none⟩)) := (unhide HR).turn.cell d1 id
      obtain ⟨e, b, hfe, KA1⟩ := unhide KA k (List.mem_of_getElem? hk)
      have KA1 := hide KA1
      have KS1 := hide (unhide KS e k hfe)
      have TW : Turn nothing w0 wr := (unhide HT1).step_turn (unhide HR).turn (fun _ _ h => h)
      have HTW := hide TW
      have i0' : (0 : Int) ≤ (j : Int) := by omega
      have i1' : (j : Int) < (N : Int) := by omega
      generalize hse : seen k e (ageAt s.c.drift (s.clk n) e) = see at *
      have hkk : Hid (see.key = k) := by show see.key = k; rw [← hse]; rfl
      have hbr : bt < wr.heap.size := Nat.lt_of_lt_of_le hb1 (unhide HR).turn.size
      obtain ⟨ver, pres, val, base, since⟩ := e
      obtain ⟨sk, sv, sp, sx, sa⟩ := see
      simp only [entV, placeV, seeV] at KA1 KS1
      clear TW hkc hse hfe
      go_wp2
      generalize hX : World.alloc _ _ = X
      have TX : Turn nothing wr X := by rw [← hX]; exact Turn.alloc _ _ _
      have hXs : X.heap.size = wr.heap.size + 1 := by rw [← hX]; simp
      have x0 : X.cell? ⟨wr.heap.size, 0, none⟩ = some (.int .i64 (n : Int)) := by rw [← hX]; exact cell_of_cells (new1_0 wr _) 0
      have x1 : X.cell? ⟨wr.heap.size, 1, none⟩ = some (.string k) := by rw [← hX]; exact cell_of_cells (new1_0 wr _) 1
      have d3 := TX.cell d2 id
      have HTX := hide TX
      have hwr : wr.heap.size < X.heap.size := by omega
      have hbX : bt < X.heap.size := by omega
      have hsz : X.heap.size = wr.heap.size + 1 := hXs
      have KA2 := hide (fun w' (T : Turn nothing X w') => unhide KA1 w' ((unhide HTW).step_turn ((unhide HTX).step_turn T (fun _ _ h => h)) (fun _ _ h => h)))
      clear hX TX hXs d2 hkr KA1
      go_cut [10] from 24 to 46 (fun s10 wx => ∃ eb, s10 = .pointer (some ⟨eb, 0, none⟩) ∧ Hid (Turn nothing X wx ∧ wx.cell? ⟨eb, 0, none⟩ = some (.int .i64 ver) ∧ wx.cell? ⟨eb, 1, none⟩ = some (.int .i64 pres) ∧ wx.cell? ⟨eb, 2, none⟩ = some (.string val) ∧ wx.cell? ⟨eb, 3, none⟩ = some (.int .i64 base) ∧ wx.cell? ⟨eb, 4, none⟩ = some (.int .i64 since)))
      case first =>
        have HS : ∀ w', Turn nothing X w' → Turn nothing X w' ∧ w'.cell? ⟨wr.heap.size, 0, none⟩ = some (.int .i64 (n : Int)) ∧ w'.cell? ⟨wr.heap.size, 1, none⟩ = some (.string k) ∧ w'.cell? ⟨bt, 12, none⟩ = some (.pointer (some ⟨g.be, 0, none⟩)) := fun w' T => ⟨T, T.cell x0 id, T.cell x1 id, T.cell d3 id⟩
        go_region_held3 (fun w' => Turn nothing X w' ∧ w'.cell? ⟨wr.heap.size, 0, none⟩ = some (.int .i64 (n : Int)) ∧ w'.cell? ⟨wr.heap.size, 1, none⟩ = some (.string k) ∧ w'.cell? ⟨bt, 12, none⟩ = some (.pointer (some ⟨g.be, 0, none⟩))) ((go_split_ands; apply HS; all_goals (repeat (first | with_reducible assumption | with_reducible exact Turn.refl _ _ | with_reducible apply Turn.step_alloc | with_reducible apply Turn.step_drew | ((with_reducible refine Turn.step_turn (N := nothing) ?_ (by assumption) ?_); rotate_left; · exact fun _ _ h => False.elim h) | ((with_reducible refine Turn.step_set ?_ ?_); rotate_left; · first | exact Or.inr rfl | exact Or.inr (Or.inl rfl) | exact Or.inl (by simp <;> omega)) | ((with_reducible refine Turn.step_turn ?_ (Turn.grown (by assumption)) ?_); rotate_left; · exact fun _ _ h => Or.inr h) | with_reducible apply There.drew | with_reducible apply There.set | ((with_reducible refine There.turn ?_ (by assumption) ?_); rotate_left; · exact id) | assumption)))) (first | (go_at_call 55; go_split_ands; refine (unhide KA2 _ (by assumption)).mono ?_; rintro e wq ⟨rfl, TC⟩; (try (have TH := there_new (n := 4) TC hsz (by simp); have q0 := peek_some (TH.are 0 (by omega)); have q1 := peek_some (TH.are 1 (by omega)); have q2 := peek_some (TH.are 2 (by omega)); have q3 := peek_some (TH.are 3 (by omega)); have q4 := peek_some (TH.are 4 (by omega)); have r0 := TH.free 0; have r1 := TH.free 1; have r2 := TH.free 2; have r3 := TH.free 3; have r4 := TH.free 4))))
        all_goals go_split_ands
        all_goals clear HS
        · generalize hY : World.alloc _ _ = Y
          have TY : Turn nothing X Y := by rw [← hY]; assumption
          have z0 : Y.cell? ⟨wq.heap.size, 0, none⟩ = some (.int .i64 ver) := by rw [← hY]; exact cell_of_cells (new1_0 wq _) 0
          have z1 : Y.cell? ⟨wq.heap.size, 1, none⟩ = some (.int .i64 pres) := by rw [← hY]; exact cell_of_cells (new1_0 wq _) 1
          have z2 : Y.cell? ⟨wq.heap.size, 2, none⟩ = some (.string val) := by rw [← hY]; exact cell_of_cells (new1_0 wq _) 2
          have z3 : Y.cell? ⟨wq.heap.size, 3, none⟩ = some (.int .i64 base) := by rw [← hY]; exact cell_of_cells (new1_0 wq _) 3
          have z4 : Y.cell? ⟨wq.heap.size, 4, none⟩ = some (.int .i64 since) := by rw [← hY]; exact cell_of_cells (new1_0 wq _) 4
          have HE := hide (And.intro TY (And.intro z0 (And.intro z1 (And.intro z2 (And.intro z3 z4)))))
          clear hY TC TY z0 z1 z2 z3 z4
          go_wp2
          go_meet
          exact ⟨_, rfl, HE⟩
        · generalize hY : World.setCell _ _ _ = Y
          have TY : Turn nothing X Y := by rw [← hY]; assumption
          have z0 : Y.cell? ⟨wr.heap.size + 1, 0, none⟩ = some (.int .i64 ver) := by rw [← hY]; simp [go_sem, TH.are 0 (by omega)]
          have z1 : Y.cell? ⟨wr.heap.size + 1, 1, none⟩ = some (.int .i64 pres) := by rw [← hY]; simp [go_sem, TH.are 1 (by omega)]
          have z2 : Y.cell? ⟨wr.heap.size + 1, 2, none⟩ = some (.string val) := by rw [← hY]; simp [go_sem, TH.are 2 (by omega)]
          have z3 : Y.cell? ⟨wr.heap.size + 1, 3, none⟩ = some (.int .i64 base) := by rw [← hY]; simp [go_sem, TH.are 3 (by omega)]
          have z4 : Y.cell? ⟨wr.heap.size + 1, 4, none⟩ = some (.int .i64 since) := by rw [← hY]; simp [go_sem, TH.are 4 (by omega)]
          have HE := hide (And.intro TY (And.intro z0 (And.intro z1 (And.intro z2 (And.intro z3 z4)))))
          clear hY TC TY z0 z1 z2 z3 z4 TH q0 q1 q2 q3 q4 r0 r1 r2 r3 r4
          go_wp2
          go_meet
          exact ⟨_, rfl, HE⟩
      case rest =>
        obtain ⟨eb, rfl, HC⟩ := hcut
        rename World => V
        have TV := (unhide HC).1
        have v0 := TV.cell x0 id
        have v1 := TV.cell x1 id
        obtain ⟨_, e0, e1, e2, e3, e4⟩ := unhide HC
        have KS2 := hide (fun w' (T : Turn nothing V w') => unhide KS1 w' ((unhide HTW).step_turn ((unhide HTX).step_turn (TV.step_turn T (fun _ _ h => h)) (fun _ _ h => h)) (fun _ _ h => h)))
        have HTV := hide (show Turn nothing wr V from (unhide HTX).step_turn TV (fun _ _ h => h))
        have hbV : bt < V.heap.size := Nat.lt_of_lt_of_le hbX TV.size
        clear KS1 KA2 x0 x1 d3 HC TV hsz
        go_wp2_with fail
        refine (unhide KS2 V (Turn.refl _ _)).mono ?_
        rintro e w2 ⟨rfl, T2⟩
        have hN2 := hide (owns_turn' (unhide HR).row ((unhide HTV).step_turn T2 (fun _ _ h => h)))
        have HT2 := hide ((unhide HR).turn.step_turn ((unhide HTV).step_turn T2 (fun _ _ h => h)) (fun _ _ h => h))
        have hw12 : w1.heap.size ≤ w2.heap.size := (unhide HT2).size
        have hown0 : Hid (∀ k', some k' = (Value.slice va L.length vc).ownBlock → w1.heap.size ≤ k') := fun k' hk' => (unhide HR).row.lt k' hk'.symm |>.1
        have hfl : Hid (((L ++ [See.mk sk sv sp sx sa]).map seeL).flatten = (L.map seeL).flatten ++ [.string sk, .int .i64 sv, .int .i64 sp, .string sx, .int .i64 sa]) := by
          show _ = _
          simp [seeL]
        have hkeys : Hid ((L ++ [See.mk sk sv sp sx sa]).map See.key = (s.used n).take (j + 1)) := by
          show _ = _
          rw [List.map_append, unhide HL, List.take_add_one, hk]
          have : sk = k := unhide hkk
          simp [this]
        have HLN : Hid (L.length ≤ 1000) := by have := unhide hLl; show L.length ≤ 1000; omega
        clear HR HL T2 KS2 v0 v1 e0 e1 e2 e3 e4 HTV hkk
        generalize hxs : (L.map seeL).flatten = xs at *
        generalize hm : L.length = m at *
        go_wp2_with (at_builtin; refine wpList_append_lies _ (by rfl) _ _ _ (by rfl) w1.heap.size 71 i0 _ 5 56 Tryd.underlying67 hi hz0 hz1 hz2 rfl (by omega) (.slice va m vc) m xs ?c1 ?c2 ⟨w2.heap.size, 0, none⟩ 1 1 [.string sk, .int .i64 sv, .int .i64 sp, .string sx, .int .i64 sa] ?c3 ?c4 ?c5 ?c6 ?c7 ?c8 ?c9 ?c10 (w2.heap.size + 1) ?c11 ?_)
        case c1 => rfl
        case c2 => exact (unhide hN2).alloc _
        case c3 => rfl
        case c4 => rfl
        case c5 => exact World.news_of_block (cs := #[.string sk, .int .i64 sv, .int .i64 sp, .string sx, .int .i64 sa]) (t := 71) (fr := (0, 0)) (new1_0 w2 _)
        case c6 => simp [Value.oneCell']
        case c7 => omega
        case c8 => have := unhide HLN; unfold maxLen; omega
        case c9 => have := unhide HLN; omega
        case c10 => simp; omega
        case c11 => simp
        intro gb cap2 w5 hown1 hgrow hat hlt5
        have HR' : Hid (EntLoop w1 w5 (.slice (some ⟨gb, 0, none⟩) (m + 1) cap2) (L ++ [See.mk sk sv sp sx sa])) := by
          refine ⟨((unhide HT2).step_alloc).step_turn (Turn.grown hgrow) (fun k' hk' h => absurd (unhide hown0 k' h) (by omega)), ?_⟩
          rw [unhide hfl, List.length_append, hm]
          exact hown1
        clear hown1 hgrow hat hN2 HT2
        go_wp2
        go_roundw
        case rel => exact ⟨j + 1, _, by omega, by go_num, HR', hkeys⟩
        case measure => simp [intOf]; omega
    · have hj : j = N := by omega
      have HE := hide (And.intro (unhide HR).turn (unhide HR).row)
      have hfin : Hid (L.map See.key = s.used n) := by
        show _ = _
        rw [unhide HL, hj, ← hN, List.take_length]
      obtain ⟨va, vc, hv⟩ := row_form (unhide HR).row
      subst hv
      clear HR HL
      go_wp2
      exact bodyPost_ret (v := .tuple #[.slice va L.length vc, .int .i64 0]) (by simp [results, Tryd.results28, go_sem]) rfl ⟨_, L, rfl, (unhide HT1).step_turn (unhide HE).1 (fun _ _ h => h), owns_base' (unhide HE).2 (unhide HT1).size, unhide hfin⟩

end Go.Proofs.YtpdkojgepagbnaaDoor
