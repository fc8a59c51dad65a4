/-
  What a caller who knows the origin's past finds of an answer: that it was the origin's, from a time on.
  The other calls on a tier as plain data: clocks, timeouts, crashes; who is counted.
  When each question is settled ahead of the next call and no time goes by: who asks is told, with an age of 0, by an entry that stays.
  When each question is settled ahead of the next call and no time goes by: a question goes up the caches and its answer comes down; the same question again finds the entry.
-/
import Derived.Test.YtpdkojgepagbnaaDoorJ02
namespace Go.Proofs.YtpdkojgepagbnaaDoor.Tier

/-- The origin's past, in order: the versions of a key go up, from 1. -/
def HistOK (h : List Was) : Prop := (h.Pairwise fun a b => a.key = b.key → a.ver < b.ver) ∧ ∀ r ∈ h, 1 ≤ r.ver

/-- The least time of a key's changes, and now and 1. -/
def firstOf (key : ByteArray) (now1 : Int) (l : List Was) : Int := l.foldl (fun a r => if r.key = key ∧ r.frm < a then r.frm else a) now1

theorem firstOf_ge (key : ByteArray) (T : Int) : ∀ (l : List Was) (a : Int), T ≤ a → (∀ r ∈ l, r.key = key → T ≤ r.frm) → T ≤ firstOf key a l
  | [], _, h, _ => h
  | r :: l, a, h, hl => by
    show T ≤ firstOf key (if r.key = key ∧ r.frm < a then r.frm else a) l
    refine firstOf_ge key T l _ ?_ (fun x hx => hl x (List.mem_cons_of_mem _ hx))
    split
    · next c => exact hl r List.mem_cons_self c.1
    · exact h

/-- Was this the origin's at some time from a time on? -/
def heldFrom (key : ByteArray) (ver pres : Int) (val : ByteArray) (now1 frm : Int) : List Was → Bool
  | [] => false
  | r :: l => if r.key = key ∧ r.ver = ver then decide (r.pres = pres) && decide (r.val = val) && decide (frm ≤ firstOf key now1 l) else heldFrom key ver pres val now1 frm l
def heldB (h : List Was) (key : ByteArray) (ver pres : Int) (val : ByteArray) (now frm : Int) : Bool :=
  if ver = 0 then decide (pres = 0) && decide (val = empty) && decide (frm ≤ firstOf key (now + 1) h) else heldFrom key ver pres val (now + 1) frm h

theorem heldFrom_ok (key : ByteArray) (ver pres : Int) (val : ByteArray) (now1 frm : Int) (hf : frm ≤ now1) : ∀ (l : List Was), HistOK l → (∃ r ∈ l, r.key = key ∧ r.ver = ver ∧ r.pres = pres ∧ r.val = val) → Late l key ver frm → heldFrom key ver pres val now1 frm l = true
  | [], _, h, _ => by obtain ⟨r, hr, _⟩ := h; cases hr
  | a :: l, ho, h, hl => by
    obtain ⟨h1, h2⟩ := List.pairwise_cons.1 ho.1
    unfold heldFrom
    by_cases ha : a.key = key ∧ a.ver = ver
    · rw [if_pos ha]
      obtain ⟨r, hr, hk, hv, hp, hx⟩ := h
      have hra : r = a := by
        rcases List.mem_cons.1 hr with e | hr
        · exact e
        · have := h1 r hr (ha.1.trans hk.symm)
          omega
      subst hra
      have he : frm ≤ firstOf key now1 l := firstOf_ge key frm l now1 hf fun s hs hsk => hl s (List.mem_cons_of_mem _ hs) hsk (by have := h1 s hs (ha.1.trans hsk.symm); omega)
      simp [hp, hx, he]
    · rw [if_neg ha]
      refine heldFrom_ok key ver pres val now1 frm hf l ⟨h2, fun r hr => ho.2 r (List.mem_cons_of_mem _ hr)⟩ ?_ (fun r hr => hl r (List.mem_cons_of_mem _ hr))
      obtain ⟨r, hr, hk, hv, hp, hx⟩ := h
      rcases List.mem_cons.1 hr with rfl | hr
      · exact absurd ⟨hk, hv⟩ ha
      · exact ⟨r, hr, hk, hv, hp, hx⟩

/-- What is known of an answer is found. -/
theorem held_ok {h : List Was} (ho : HistOK h) {key : ByteArray} {ver pres : Int} {val : ByteArray} {now frm : Int} (hf : frm ≤ now + 1) (hk : Known h key ver pres val) (hl : Late h key ver frm) : heldB h key ver pres val now frm = true := by
  unfold heldB
  by_cases h0 : ver = 0
  · rw [if_pos h0]
    have hpv : pres = 0 ∧ val = empty := by
      rcases hk with ⟨_, hp, hx⟩ | ⟨r, hr, _, hv, _⟩
      · exact ⟨hp, hx⟩
      · have := ho.2 r hr; omega
    have he : frm ≤ firstOf key (now + 1) h := firstOf_ge key frm h (now + 1) hf fun r hr hrk => hl r hr hrk (by have := ho.2 r hr; omega)
    simp [hpv.1, hpv.2, he]
  · rw [if_neg h0]
    refine heldFrom_ok key ver pres val (now + 1) frm hf h ho ?_ hl
    rcases hk with ⟨hz, _⟩ | hr
    · exact absurd hz h0
    · exact hr

theorem item_nonneg {g : G} {t : St} (h : Inv g t) (ho : HistOK g.h) (k : ByteArray) : 0 ≤ (t.item k).ver := by
  rcases (h.items k).1 with ⟨hz, _⟩ | ⟨r, hr, _, hv, _⟩
  · omega
  · have := ho.2 r hr; omega

theorem hist_more {g : G} {t : St} (h : Inv g t) (ho : HistOK g.h) (k : ByteArray) (p : Int) (x : ByteArray) : HistOK (g.h ++ [⟨k, (t.item k).ver + 1, p, x, g.now⟩]) := by
  refine ⟨List.pairwise_append.2 ⟨ho.1, List.pairwise_singleton _ _, fun a ha b hb hk => ?_⟩, fun r hr => ?_⟩
  · rw [List.mem_singleton.1 hb] at hk ⊢
    have := (h.items k).2 a ha hk
    show a.ver < (t.item k).ver + 1
    omega
  · rcases List.mem_append.1 hr with hr | hr
    · exact ho.2 r hr
    · rw [List.mem_singleton.1 hr]
      have := item_nonneg h ho k
      show 1 ≤ (t.item k).ver + 1
      omega

/-- THE BUDGET: of every answer that is told, in time. -/
theorem told_held {g : G} {t : St} (h : Inv g t) (ho : HistOK g.h) (htm : g.tm) (_hb : 1 ≤ g.c.budget) {a : Ans} (ha : a ∈ t.answers) (hk : a.kind = 1) :
    heldB g.h (g.kid a.id) a.ver a.pres a.val g.now (g.now - g.c.budget) = true ∧ 0 ≤ a.age ∧ a.age ≤ g.c.budget := by
  rcases h.says.answers a ha with ⟨h2, _⟩ | ⟨_, hkn, h0, h1, hl⟩
  · omega
  · exact ⟨held_ok ho (by omega) hkn ((hl htm).mono (by omega)), h0, h1⟩

/-- Whatever clocks do: what is told was the origin's at some time. -/
theorem told_known {g : G} {t : St} (h : Inv g t) (ho : HistOK g.h) (hpos : ∀ r ∈ g.h, 0 ≤ r.frm) (hnow : -1 ≤ g.now) {a : Ans} (ha : a ∈ t.answers) (hk : a.kind = 1) :
    heldB g.h (g.kid a.id) a.ver a.pres a.val g.now 0 = true ∧ 0 ≤ a.age ∧ a.age ≤ g.c.budget := by
  rcases h.says.answers a ha with ⟨h2, _⟩ | ⟨_, hkn, h0, h1, _⟩
  · omega
  · exact ⟨held_ok ho (by omega) hkn (fun r hr _ _ => hpos r hr), h0, h1⟩

end Go.Proofs.YtpdkojgepagbnaaDoor.Tier

namespace Go.Proofs.YtpdkojgepagbnaaDoor.Tier

/-- A clock reads so. -/
def St.tick (t : St) (n : Nat) (c : Int) : St := t.setCac n { t.cac n with clock := c }
/-- A cache has nothing any more. -/
def St.crash (t : St) (n : Nat) : St := t.setCac n ⟨(t.cac n).clock, [], []⟩
/-- A fetch ends by a timeout. -/
def St.timeout (t : St) (n : Nat) (k : ByteArray) : St := match t.fetch n k with
  | none => t
  | some f => (t.over n k).refuseAll n k f.l
/-- What it is answered. -/
def St.timeoutE (t : St) (n : Nat) (k : ByteArray) : Int := if (t.fetch n k).isSome then 0 else 8

theorem better_key (t : St) (n : Nat) (m : Mes) (b : Int) : (t.better n m b).key = m.key := by
  unfold St.better
  split
  · next e he =>
    have hk : e.key = m.key := of_decide_eq_true (find_mem he).2
    split
    · rfl
    · split
      · exact hk
      · exact hk
  · rfl

theorem one_child {id : Int} {w : Wtr} (h : ¬ w.node < 0) : one id w = 0 := by
  unfold one isC
  rw [decide_eq_false h]
  rfl

theorem comes_ok {t : St} (h : AllNeat t) (hr : 1 ≤ t.c.entries) (m : Mes) (hto : 0 ≤ m.to ∧ m.to < t.caches.length) (hf : m.kind = 1 → 0 < m.frm) : AllNeat (t.comes m) ∧ ∀ id, cnt id (t.comes m) = cnt id t := by
  unfold St.comes
  split
  · exact answered_ok h _ (by omega) hr m (better_key t _ m)
  · next hk =>
    have hk : m.kind = 1 := Classical.not_not.1 hk
    have h0 := hf hk
    split
    · obtain ⟨a, b⟩ := wants_ok h m.to.toNat (by omega) hr m.key ⟨m.frm, 0, m.serial, m.ver⟩
      refine ⟨a, fun id => ?_⟩
      rw [b id, one_child (by show ¬ m.frm < 0; omega)]; rfl
    · unfold St.atOrigin
      dsimp only
      split
      · exact ⟨neat_of h rfl rfl, fun _ => rfl⟩
      · exact ⟨neat_of h rfl rfl, fun _ => rfl⟩

theorem timeout_ok {t : St} (h : AllNeat t) (n : Nat) (hn : n < t.caches.length) (k : ByteArray) : AllNeat (t.timeout n k) ∧ ∀ id, cnt id (t.timeout n k) = cnt id t := by
  unfold St.timeout
  split
  · exact ⟨h, fun _ => rfl⟩
  · next f hf =>
    refine ⟨neat_refuseAll n k f.l (neat_over h n k), fun id => ?_⟩
    rw [cnt_refuseAll]; exact cnt_over id t n k f hn (h n).fts hf

theorem crash_ok {t : St} (h : AllNeat t) (n : Nat) (hn : n < t.caches.length) (he : 0 ≤ t.c.entries) (hw : 0 ≤ t.c.waiters) : AllNeat (t.crash n) ∧ ∀ id, cnt id (t.crash n) ≤ cnt id t := by
  refine ⟨neat_set h n _ ⟨List.Pairwise.nil, List.Pairwise.nil, by simpa using he, by simpa [wl] using hw⟩, fun id => ?_⟩
  have := cc_set id t n ⟨(t.cac n).clock, [], []⟩ hn
  show cc id (t.setCac n _).caches + ca id t.answers ≤ cc id t.caches + ca id t.answers
  have e : cf id ([] : List Ftc) = 0 := rfl
  dsimp only at this
  omega

theorem cl_pos {id : Int} {l : List Wtr} {w : Wtr} (h : w ∈ l) (hn : w.node < 0) (hi : w.id = id) : 1 ≤ cl id l := by
  unfold cl
  exact List.countP_pos_iff.2 ⟨w, h, by simp [isC, hn, hi]⟩
theorem mem_le_sum {l : List Nat} {x : Nat} (h : x ∈ l) : x ≤ l.sum := by
  induction l with
  | nil => cases h
  | cons y r ih =>
    rw [List.sum_cons]
    rcases List.mem_cons.1 h with e | h
    · omega
    · have := ih h; omega
theorem cf_pos {id : Int} {l : List Ftc} {f : Ftc} (h : f ∈ l) : cl id f.l ≤ cf id l := mem_le_sum (List.mem_map.2 ⟨f, h, rfl⟩)
theorem cc_pos {id : Int} (t : St) (n : Nat) : cf id (t.cac n).fts ≤ cc id t.caches := by
  by_cases hn : n < t.caches.length
  · have e : t.cac n = t.caches[n] := by unfold St.cac; rw [List.getD_eq_getElem?_getD, List.getElem?_eq_getElem hn]; rfl
    rw [e]
    exact mem_le_sum (List.mem_map.2 ⟨_, List.getElem_mem hn, rfl⟩)
  · have e : t.cac n = noCac := by unfold St.cac; rw [List.getD_eq_getElem?_getD, List.getElem?_eq_none (by omega)]; rfl
    rw [e]
    exact Nat.zero_le _

theorem noId_of_cnt {t : St} {id : Int} (h : cnt id t = 0) : NoId id t := by
  have h' : cc id t.caches + ca id t.answers = 0 := h
  refine ⟨fun n f w hf hw hn hi => ?_, fun a ha hi => ?_⟩
  · have h1 := cl_pos hw hn hi
    have h2 := cf_pos (id := id) hf
    have h3 := cc_pos (id := id) t n
    omega
  · have h1 : 1 ≤ ca id t.answers := List.countP_pos_iff.2 ⟨a, ha, by simp [hi]⟩
    omega

theorem inv_timeout {g : G} {t : St} (h : Inv g t) (n : Nat) (k : ByteArray) : Inv g (t.timeout n k) := by
  unfold St.timeout
  split
  · exact h
  · next f hf =>
    obtain ⟨a, b⟩ := fetch_of h hf
    exact inv_refuseAll n k f.l (inv_over h n k) (fun w hw => by have := a.2.2.2.2 w hw; rw [b] at this; exact this)

end Go.Proofs.YtpdkojgepagbnaaDoor.Tier

namespace Go.Proofs.YtpdkojgepagbnaaDoor.Tier

/-- The first message comes. -/
def St.first (t : St) : St := match t.net with
  | [] => t
  | m :: r => ({ t with net := r } : St).comes m
def St.settle : Nat → St → St
  | 0, t => t
  | j + 1, t => St.settle j t.first

theorem settle_add (a b : Nat) (t : St) : St.settle (a + b) t = St.settle b (St.settle a t) := by
  induction a generalizing t with
  | zero => rw [Nat.zero_add]; rfl
  | succ a ih => rw [show a + 1 + b = (a + b) + 1 by omega]; exact ih t.first

/-- Nothing is under way, no clock has moved, every entry is as fresh as can be. -/
structure Calmly (t : St) : Prop where
  net : t.net = []
  clock : ∀ m, (t.cac m).clock = 0
  ents : ∀ m e, e ∈ (t.cac m).ents → e.base = 0 ∧ e.since = 0 ∧ 0 ≤ e.ver
  items : ∀ k, 0 ≤ (t.item k).ver
  size : t.caches.length = t.c.parents.length
  drift : t.c.drift ≤ 500000
  budget : 0 ≤ t.c.budget
  entries : 1 ≤ t.c.entries
  waiters : 1 ≤ t.c.waiters
  up : ∀ m : Nat, 0 < m → m < t.c.parents.length → 0 ≤ t.c.parents.getD m 0 ∧ t.c.parents.getD m 0 < m

/-- Up to a node nobody waits. -/
def Free (n : Nat) (t : St) : Prop := ∀ m, m ≤ n → (t.cac m).fts = []

/-- Above a node the same wait; who was answered stays so. -/
structure Alike (n : Nat) (t u : St) : Prop where
  fts : ∀ m, n < m → (u.cac m).fts = (t.cac m).fts
  answers : u.answers = t.answers
  c : u.c = t.c
  items : u.items = t.items

theorem elapsed_zero {drift : Int} (h : drift ≤ 500000) : elapsed drift 0 = 0 := by
  unfold elapsed
  rw [Int.mul_zero, Int.zero_add]
  exact Int.ediv_eq_zero_of_lt (by omega) (by omega)

theorem calm_age {m : Nat} {t : St} (h : Calmly t) {e : Kept} (he : e.base = 0 ∧ e.since = 0) : t.age m e = 0 := by
  unfold St.age
  rw [he.1, he.2, h.clock m, Int.sub_zero, elapsed_zero h.drift]; rfl

theorem calm_of {t u : St} (h : Calmly t) (hnet : u.net = []) (hclock : ∀ m, (u.cac m).clock = (t.cac m).clock) (hents : ∀ m e, e ∈ (u.cac m).ents → e.base = 0 ∧ e.since = 0 ∧ 0 ≤ e.ver) (hi : u.items = t.items) (hs : u.caches.length = t.caches.length) (hc : u.c = t.c) : Calmly u :=
  ⟨hnet, fun m => (hclock m).trans (h.clock m), hents, fun k => by have := h.items k; unfold St.item at *; rw [hi]; exact this, by rw [hs, hc]; exact h.size, by rw [hc]; exact h.drift, by rw [hc]; exact h.budget, by rw [hc]; exact h.entries, by rw [hc]; exact h.waiters, by rw [hc]; exact h.up⟩

theorem calm_uses {t : St} (h : Calmly t) (n : Nat) (e : Kept) (he : e.base = 0 ∧ e.since = 0 ∧ 0 ≤ e.ver) : Calmly (t.uses n e) := by
  refine calm_of h h.net (fun m => clock_set t n m _ rfl) (fun m x hx => ?_) rfl (length_set t n _) rfl
  unfold St.uses at hx
  rw [cac_set] at hx
  split at hx
  · rcases List.mem_cons.1 (List.mem_of_mem_take hx) with rfl | hx
    · exact he
    · exact h.ents n x (List.mem_filter.1 hx).1
  · exact h.ents m x hx

theorem fts_uses (t : St) (n m : Nat) (e : Kept) : ((t.uses n e).cac m).fts = (t.cac m).fts := by
  unfold St.uses; rw [cac_set]; split
  · next h => rw [h.1]
  · rfl

theorem calm_over {t : St} (h : Calmly t) (n : Nat) (k : ByteArray) : Calmly (t.over n k) := by
  refine calm_of h h.net (fun m => clock_over t n m k) (fun m x hx => ?_) rfl (length_set t n _) rfl
  unfold St.over at hx
  rw [cac_set] at hx
  split at hx
  · exact h.ents n x hx
  · exact h.ents m x hx

/-- An answer comes down to a cache where one waits. -/
theorem down {t : St} (h : Calmly t) (n : Nat) (hn : n < t.caches.length) (k : ByteArray) (S : Int) (w : Wtr) (hf : (t.cac n).fts = [⟨k, S, 0, [w]⟩]) (m : Mes) (hk : m.kind = 2) (hkey : m.key = k) (hs : m.serial = S) (ha : m.age = 0) (hv : 0 ≤ m.ver) :
    ∃ e : Kept, t.answered n m = ((t.over n k).uses n e).toldBy n e w ∧ e.key = k ∧ e.base = 0 ∧ e.since = 0 ∧ 0 ≤ e.ver := by
  have hfe : t.fetch n m.key = some ⟨k, S, 0, [w]⟩ := by unfold St.fetch; rw [hf]; simp [hkey]
  have hb0 : m.age + elapsed t.c.drift ((t.cac n).clock - 0) = 0 := by rw [ha, h.clock n, Int.sub_zero, elapsed_zero h.drift]; rfl
  have hbet : (t.better n m 0).key = k ∧ (t.better n m 0).base = 0 ∧ (t.better n m 0).since = 0 ∧ 0 ≤ (t.better n m 0).ver := by
    unfold St.better
    split
    · next e he =>
      obtain ⟨hm, hek⟩ := find_mem he
      have hz := h.ents n e hm
      have hek' : e.key = k := (of_decide_eq_true hek).trans hkey
      split
      · exact ⟨hkey, rfl, h.clock n, hv⟩
      · split
        · exact ⟨hek', rfl, h.clock n, hz.2.2⟩
        · exact ⟨hek', hz.1, hz.2.1, hz.2.2⟩
    · exact ⟨hkey, rfl, h.clock n, hv⟩
  refine ⟨t.better n m 0, ?_, hbet⟩
  have hlen : n < (t.over n k).caches.length := by rw [show (t.over n k).caches.length = t.caches.length from length_set t n _]; exact hn
  unfold St.answered
  rw [hfe]
  show (if (S : Int) ≠ m.serial then _ else _) = _
  rw [if_neg (by rw [hs]; exact fun c => c rfl), if_neg (by omega), if_neg (by omega), hkey]
  show (if ((t.over n k).uses n (t.better n m (m.age + elapsed t.c.drift ((t.cac n).clock - 0)))).age n (t.better n m (m.age + elapsed t.c.drift ((t.cac n).clock - 0))) ≤ _ then _ else _) = _
  rw [hb0]
  generalize t.better n m 0 = e at *
  have hcu := calm_uses (calm_over h n k) n e ⟨hbet.2.1, hbet.2.2.1, hbet.2.2.2⟩
  rw [if_pos (by rw [calm_age hcu ⟨hbet.2.1, hbet.2.2.1⟩]; exact hcu.budget)]
  show List.foldl _ _ [w] = _
  rw [List.foldl_cons, List.foldl_nil]
  have he : ((t.over n k).uses n e).entry n k = some e := by have := entry_uses (e := e) hlen h.entries; rw [hbet.1] at this; exact this
  rw [he]

end Go.Proofs.YtpdkojgepagbnaaDoor.Tier

namespace Go.Proofs.YtpdkojgepagbnaaDoor.Tier

theorem cac_uses_other {t : St} {n m : Nat} {e : Kept} (h : m ≠ n) : (t.uses n e).cac m = t.cac m := by
  unfold St.uses; rw [cac_set, if_neg (fun c => h c.1)]
theorem cac_over_other {t : St} {n m : Nat} {k : ByteArray} (h : m ≠ n) : (t.over n k).cac m = t.cac m := by
  unfold St.over; rw [cac_set, if_neg (fun c => h c.1)]
theorem fts_over {t : St} {n : Nat} (hn : n < t.caches.length) {k : ByteArray} {S s : Int} {l : List Wtr} (hf : (t.cac n).fts = [⟨k, S, s, l⟩]) : ((t.over n k).cac n).fts = [] := by
  rw [cac_over hn]
  show (t.cac n).fts.filter _ = []
  rw [hf]
  simp

/-- A message less, and what it leaves. -/
theorem calm_net {t : St} (h : Calmly { t with net := [] }) (hn : t.net = []) : Calmly t := ⟨hn, h.clock, h.ents, h.items, h.size, h.drift, h.budget, h.entries, h.waiters, h.up⟩

/-- Who asks at a cache where nobody waits is told by an entry as fresh as can be, when all messages have come. -/
theorem up : ∀ (n : Nat) (t : St) (k : ByteArray) (w : Wtr), Calmly t → Free n t → 0 < n → n < t.c.parents.length →
    ∃ (j : Nat) (s : St) (e : Kept), j ≤ 2 * n ∧ St.settle j (t.wants n k w) = s.toldBy n e w ∧ Calmly s ∧ Free n s ∧ Alike n t s ∧ e.key = k ∧ e.base = 0 ∧ e.since = 0 ∧ 0 ≤ e.ver := by
  intro n
  induction n using Nat.strongRecOn with
  | _ n ih =>
    intro t k w h hfree h0 hl
    unfold St.wants
    cases he : t.entry n k with
    | some e =>
      obtain ⟨hm, hek⟩ := find_mem he
      have hz := h.ents n e hm
      dsimp only
      rw [if_pos (by rw [calm_age h ⟨hz.1, hz.2.1⟩]; exact h.budget)]
      exact ⟨0, t, e, Nat.zero_le _, rfl, h, hfree, ⟨fun _ _ => rfl, rfl, rfl, rfl⟩, of_decide_eq_true hek, hz⟩
    | none =>
      dsimp only
      have hwt : t.waiting n = 0 := by unfold St.waiting; rw [hfree n (Nat.le_refl _)]; rfl
      have hft : t.fetch n k = none := by unfold St.fetch; rw [hfree n (Nat.le_refl _)]; rfl
      rw [if_neg (by rw [hwt]; have := h.waiters; omega), hft]
      show ∃ (j : Nat) (s : St) (e : Kept), j ≤ 2 * n ∧ St.settle j (t.sends n k (-1) [w]) = s.toldBy n e w ∧ _
      have hcl : n < t.caches.length := by rw [h.size]; exact hl
      obtain ⟨p0, p1⟩ := h.up n h0 hl
      -- the tier with the question taken off
      generalize hU : ({ t.sends n k (-1) [w] with net := [] } : St) = u
      have ucac : ∀ m, u.cac m = if m = n then { t.cac n with fts := [⟨k, t.serial + 1, 0, [w]⟩] } else t.cac m := fun m => by
        rw [← hU]
        show (t.setCac n { t.cac n with fts := (t.cac n).fts ++ [⟨k, t.serial + 1, (t.cac n).clock, [w]⟩] }).cac m = _
        rw [cac_set, hfree n (Nat.le_refl _), h.clock n]
        by_cases e : m = n
        · rw [if_pos ⟨e, hcl⟩, if_pos e]; rfl
        · rw [if_neg (fun c => e c.1), if_neg e]
      have uc : u.c = t.c := by rw [← hU]; rfl
      have ui : u.items = t.items := by rw [← hU]; rfl
      have ua : u.answers = t.answers := by rw [← hU]; rfl
      have us : u.serial = t.serial + 1 := by rw [← hU]; rfl
      have ul : u.caches.length = t.caches.length := by rw [← hU]; exact length_set t n _
      have un : u.net = [] := by rw [← hU]
      have hu : Calmly u := by
        refine calm_of h un (fun m => ?_) (fun m x hx => ?_) ui ul uc
        · rw [ucac]; split
          · next e => rw [e]
          · rfl
        · rw [ucac] at hx
          split at hx
          · exact h.ents n x hx
          · exact h.ents m x hx
      have hfn : (u.cac n).fts = [⟨k, u.serial, 0, [w]⟩] := by rw [ucac, if_pos rfl, us]
      have hfo : ∀ m, m ≠ n → (u.cac m).fts = (t.cac m).fts := fun m hm => by rw [ucac, if_neg hm]
      have hfirst : (t.sends n k (-1) [w]).first = u.comes ⟨1, n, t.c.parents.getD n 0, k, u.serial, -1, 0, 0, empty⟩ := by
        unfold St.first
        have hnet : (t.sends n k (-1) [w]).net = [⟨1, n, t.c.parents.getD n 0, k, t.serial + 1, -1, 0, 0, empty⟩] := by
          show t.net ++ _ = _
          rw [h.net]; rfl
        rw [hnet, us]
        show ({ t.sends n k (-1) [w] with net := [] } : St).comes _ = _
        rw [hU]
      -- the answer comes down, whoever gives it
      have hdown : ∀ (v : St) (m : Mes), Calmly v → v.caches.length = v.c.parents.length → n < v.caches.length → (v.cac n).fts = [⟨k, u.serial, 0, [w]⟩] → (∀ m, m < n → (v.cac m).fts = []) → (∀ m, n < m → (v.cac m).fts = (t.cac m).fts) → v.answers = t.answers → v.c = t.c → v.items = t.items →
          m.kind = 2 → m.to = n → m.key = k → m.serial = u.serial → m.age = 0 → 0 ≤ m.ver →
          ∃ (s : St) (e : Kept), v.comes m = s.toldBy n e w ∧ Calmly s ∧ Free n s ∧ Alike n t s ∧ e.key = k ∧ e.base = 0 ∧ e.since = 0 ∧ 0 ≤ e.ver := by
        intro v m hv hvs hvn hvf hvl hvg va vc vi mk mt mkey ms ma mv
        obtain ⟨e, e1, e2, e3, e4, e5⟩ := down hv n hvn k u.serial w hvf m mk mkey ms ma mv
        refine ⟨(v.over n k).uses n e, e, ?_, calm_uses (calm_over hv n k) n e ⟨e3, e4, e5⟩, ?_, ⟨fun m hm => ?_, va, vc, vi⟩, e2, e3, e4, e5⟩
        · unfold St.comes
          rw [if_pos (by rw [mk]; decide), mt]
          exact e1
        · intro m hm
          rw [fts_uses]
          by_cases e : m = n
          · rw [e]; exact fts_over hvn hvf
          · rw [cac_over_other e]; exact hvl m (by omega)
        · rw [fts_uses, cac_over_other (by omega)]; exact hvg m hm
      by_cases hp : t.c.parents.getD n 0 = 0
      · -- the origin
        have hor : u.comes ⟨1, n, t.c.parents.getD n 0, k, u.serial, -1, 0, 0, empty⟩ = { u with net := [⟨2, 0, n, k, u.serial, (u.item k).ver, 0, (u.item k).pres, (u.item k).val⟩] } := by
          unfold St.comes
          rw [if_neg (show ¬ ((1 : Int) ≠ 1) by decide), hp, if_neg (show ¬ (0 : Int) < 0 by decide)]
          unfold St.atOrigin
          dsimp only
          have := hu.items k
          rw [if_neg (by omega), un]
          rfl
        obtain ⟨s, e, r1, r2⟩ := hdown u ⟨2, 0, n, k, u.serial, (u.item k).ver, 0, (u.item k).pres, (u.item k).val⟩ hu hu.size (by rw [ul]; exact hcl) hfn (fun m hm => by rw [hfo m (by omega)]; exact hfree m (by omega)) (fun m hm => hfo m (by omega)) ua uc ui rfl rfl rfl rfl rfl (hu.items k)
        refine ⟨2, s, e, by omega, ?_, r2⟩
        show St.settle 0 (t.sends n k (-1) [w]).first.first = _
        rw [hfirst, hor]
        have hone : ∀ (v : St) (m : Mes), v.net = [] → ({ v with net := [m] } : St).first = v.comes m := fun v m hv => by
          show ({ v with net := [] } : St).comes m = _
          rw [← hv]
        rw [hone u _ un]
        exact r1
      · -- another cache
        obtain ⟨p, hpn⟩ : ∃ p : Nat, t.c.parents.getD n 0 = (p : Int) := ⟨(t.c.parents.getD n 0).toNat, by omega⟩
        rw [hpn] at p0 p1 hp hfirst
        have hup : u.comes ⟨1, n, (p : Int), k, u.serial, -1, 0, 0, empty⟩ = u.wants p k ⟨n, 0, u.serial, -1⟩ := by
          unfold St.comes
          rw [if_neg (show ¬ ((1 : Int) ≠ 1) by decide), if_pos (show (0 : Int) < (p : Int) by omega)]
          show u.wants (Int.toNat p) k _ = _
          rw [Int.toNat_natCast]
        have hpf : Free p u := fun m hm => by rw [hfo m (by omega)]; exact hfree m (by omega)
        obtain ⟨j, s, e, hj, h1, h2, h3, h4, h5, h6, h7, h8⟩ := ih p (by omega) u k ⟨n, 0, u.serial, -1⟩ hu hpf (by omega) (by rw [uc]; omega)
        have htold : s.toldBy p e ⟨n, 0, u.serial, -1⟩ = { s.uses p e with net := [⟨2, p, n, k, u.serial, e.ver, 0, e.pres, e.val⟩] } := by
          unfold St.toldBy
          rw [if_neg (show ¬ ((n : Nat) : Int) < 0 by omega), if_neg (show ¬ (-1 : Int) = e.ver by omega), h2.net, calm_age h2 ⟨h6, h7⟩, h5]
          rfl
        have hsu := calm_uses h2 p e ⟨h6, h7, h8⟩
        have hsl : (s.uses p e).caches.length = t.caches.length := by
          rw [hsu.size, h.size]
          show s.c.parents.length = _
          rw [h4.c, uc]
        obtain ⟨s2, e', r1, r2⟩ := hdown (s.uses p e) ⟨2, p, n, k, u.serial, e.ver, 0, e.pres, e.val⟩ hsu hsu.size (by rw [hsl]; exact hcl) (by rw [fts_uses, h4.fts n (by omega)]; exact hfn)
          (fun m hm => by
            rw [fts_uses]
            by_cases hmp : m ≤ p
            · exact h3 m hmp
            · rw [h4.fts m (by omega), hfo m (by omega)]; exact hfree m (by omega))
          (fun m hm => by rw [fts_uses, h4.fts m (by omega), hfo m (by omega)]) (h4.answers.trans ua) (h4.c.trans uc) (h4.items.trans ui) rfl rfl rfl rfl rfl h8
        refine ⟨j + 1 + 1, s2, e', by omega, ?_, r2⟩
        show St.settle (j + 1) (t.sends n k (-1) [w]).first = _
        rw [hfirst, hup, settle_add, h1, htold]
        have hone : ∀ (v : St) (m : Mes), v.net = [] → St.settle 1 ({ v with net := [m] } : St) = v.comes m := fun v m hv => by
          show ({ v with net := [] } : St).comes m = _
          rw [← hv]
        exact (hone (s.uses p e) _ hsu.net).trans r1

/-- An entry that was just used is used again: nothing turns. -/
theorem uses_twice {t : St} {n : Nat} {e : Kept} (hr : 1 ≤ t.c.entries) : (t.uses n e).uses n e = t.uses n e := by
  by_cases hn : n < t.caches.length
  · have hc := cac_uses (e := e) hn
    have hfil : ((e :: (t.cac n).ents.filter fun x => decide (x.key ≠ e.key)).take t.c.entries.toNat).filter (fun x => decide (x.key ≠ e.key)) = ((t.cac n).ents.filter fun x => decide (x.key ≠ e.key)).take (t.c.entries.toNat - 1) := by
      obtain ⟨N, hN⟩ : ∃ N, t.c.entries.toNat = N + 1 := ⟨t.c.entries.toNat - 1, by omega⟩
      rw [hN, List.take_succ_cons, List.filter_cons_of_neg (by simp)]
      show _ = List.take N _
      refine List.filter_eq_self.2 (fun x hx => ?_)
      exact (List.mem_filter.1 (List.mem_of_mem_take hx)).2
    have hfin : (e :: ((e :: (t.cac n).ents.filter fun x => decide (x.key ≠ e.key)).take t.c.entries.toNat).filter (fun x => decide (x.key ≠ e.key))).take t.c.entries.toNat = (e :: (t.cac n).ents.filter fun x => decide (x.key ≠ e.key)).take t.c.entries.toNat := by
      rw [hfil]
      obtain ⟨N, hN⟩ : ∃ N, t.c.entries.toNat = N + 1 := ⟨t.c.entries.toNat - 1, by omega⟩
      rw [hN, List.take_succ_cons, List.take_succ_cons]
      show e :: List.take N (List.take N _) = _
      rw [List.take_take, Nat.min_self]
    show (t.uses n e).setCac n { (t.uses n e).cac n with ents := (e :: ((t.uses n e).cac n).ents.filter fun x => decide (x.key ≠ e.key)).take t.c.entries.toNat } = _
    rw [hc]
    dsimp only
    rw [hfin]
    unfold St.uses St.setCac
    dsimp only
    rw [List.set_set]
  · have hset : ∀ (u : St) (c : Cac), ¬ n < u.caches.length → u.setCac n c = u := fun u c hu => by
      unfold St.setCac
      rw [List.set_eq_of_length_le (by omega)]
    unfold St.uses
    rw [hset t _ hn, hset t _ hn]

/-- The same question again is told by the same entry; no message goes. -/
theorem again {s : St} (h : Calmly s) {n : Nat} (hn : n < s.c.parents.length) {e : Kept} (hb : e.base = 0) (hs : e.since = 0) (h0 : 0 ≤ e.ver) (ha : s.answers = []) (id : Int) :
    s.toldBy n e ⟨-1, id, 0, 0⟩ = { s.uses n e with answers := [⟨n, id, 1, e.ver, e.pres, e.val, 0⟩] } ∧
    (s.uses n e).wants n e.key ⟨-1, id, 0, 0⟩ = { s.uses n e with answers := [⟨n, id, 1, e.ver, e.pres, e.val, 0⟩] } := by
  have hu := calm_uses h n e ⟨hb, hs, h0⟩
  have hcl : n < s.caches.length := by rw [h.size]; exact hn
  have htold : ∀ v : St, Calmly v → v.answers = [] → v.toldBy n e ⟨-1, id, 0, 0⟩ = { v.uses n e with answers := [⟨n, id, 1, e.ver, e.pres, e.val, 0⟩] } := fun v hv hva => by
    unfold St.toldBy
    rw [if_pos (by show (-1 : Int) < 0; decide), hva, calm_age hv ⟨hb, hs⟩]
    rfl
  refine ⟨htold s h ha, ?_⟩
  unfold St.wants
  rw [entry_uses hcl h.entries]
  dsimp only
  rw [if_pos (by rw [calm_age hu ⟨hb, hs⟩]; exact hu.budget), htold _ hu ha, uses_twice h.entries]

end Go.Proofs.YtpdkojgepagbnaaDoor.Tier
