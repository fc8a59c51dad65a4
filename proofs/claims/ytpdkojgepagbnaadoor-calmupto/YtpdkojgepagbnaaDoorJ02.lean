/-
  Plain facts on lists and numbers that the proofs of Rights, Wires and Back use: going from parent to parent comes to node 0 within as many steps as there are nodes, or never.
  A tier as plain data: what each call makes of it, after the document. No program stands in it.
  What is said of every entry, fetch, message and answer of a tier is handed on from call to call.
  The budget: what a client is told was the origin's no longer ago than its age tells, and its age is within the budget; whatever the clocks do, it was the origin's at some time. On the plain data of a tier, call by call.
  Nobody is answered twice, and nobody is forgotten but by a crash: how many wait or are answered under an id, call by call. And: a cache has one fetch and one entry at most for a key, no more entries and no more who wait than it may.
-/
namespace Go.Proofs.YtpdkojgepagbnaaDoor.Nums

def inB (n lo hi : Int) : Bool := decide (lo ≤ n) && decide (n ≤ hi)

/-- The program's going: at most so many steps, from a place that is one. -/
def goes (zs : List Int) : Nat → Nat → Bool
  | 0, _ => false
  | f + 1, k => if k = 0 then true else if inB (zs.getD k 0) 0 ((zs.length : Int) - 1) then goes zs f (zs.getD k 0).toNat else false

/-- The document's going. -/
def comes (zs : List Int) : Nat → Int → Bool
  | 0, _ => false
  | f + 1, i => if i = 0 then true else if i < 0 ∨ (zs.length : Int) ≤ i then false else comes zs f (zs.getD i.toNat 0)

theorem inB_iff {n lo hi : Int} : inB n lo hi = true ↔ lo ≤ n ∧ n ≤ hi := by simp [inB]

theorem goes_comes (zs : List Int) : ∀ (f k : Nat), k < zs.length → goes zs f k = comes zs f (k : Int) := by
  intro f
  induction f with
  | zero => intro k _; rfl
  | succ f ih =>
    intro k hk
    rw [goes, comes]
    by_cases h0 : k = 0
    · simp [h0]
    · rw [if_neg h0, if_neg (show ¬ (k : Int) = 0 by omega), if_neg (show ¬ ((k : Int) < 0 ∨ (zs.length : Int) ≤ (k : Int)) by omega), Int.toNat_natCast]
      by_cases hb : inB (zs.getD k 0) 0 ((zs.length : Int) - 1) = true
      · rw [if_pos hb]
        have h2 := inB_iff.1 hb
        rw [ih _ (by omega), Int.toNat_of_nonneg h2.1]
      · rw [if_neg hb]
        rw [inB_iff] at hb
        cases f with
        | zero => rfl
        | succ f => rw [comes, if_neg (by omega), if_pos (by omega)]

/-- How many places come to 0 within so many steps. -/
def count (p : Nat → Bool) (n : Nat) : Nat := (List.range n).countP p

theorem countP_lt {p q : Nat → Bool} : ∀ (l : List Nat), (∀ x ∈ l, p x = true → q x = true) → (∃ x ∈ l, p x = false ∧ q x = true) → l.countP p < l.countP q := by
  intro l
  induction l with
  | nil => intro _ h; obtain ⟨x, hx, _⟩ := h; cases hx
  | cons a l ih =>
    intro hle hex
    have hle' : l.countP p ≤ l.countP q := List.countP_mono_left (fun x hx h => hle x (List.mem_cons_of_mem _ hx) h)
    rw [List.countP_cons, List.countP_cons]
    by_cases hpa : p a = true
    · have hqa := hle a List.mem_cons_self hpa
      rw [if_pos hpa, if_pos hqa]
      obtain ⟨x, hx, h1, h2⟩ := hex
      rcases List.mem_cons.1 hx with rfl | hx'
      · rw [hpa] at h1; cases h1
      · have := ih (fun y hy h => hle y (List.mem_cons_of_mem _ hy) h) ⟨x, hx', h1, h2⟩
        omega
    · rw [if_neg hpa]
      by_cases hqa : q a = true
      · rw [if_pos hqa]; omega
      · rw [if_neg hqa]
        obtain ⟨x, hx, h1, h2⟩ := hex
        rcases List.mem_cons.1 hx with rfl | hx'
        · exact absurd h2 hqa
        · have := ih (fun y hy h => hle y (List.mem_cons_of_mem _ hy) h) ⟨x, hx', h1, h2⟩
          omega

theorem comes_mono (zs : List Int) : ∀ (f : Nat) (i : Int), comes zs f i = true → comes zs (f + 1) i = true := by
  intro f
  induction f with
  | zero => intro i h; cases h
  | succ f ih =>
    intro i h
    rw [comes] at h ⊢
    by_cases h0 : i = 0
    · simp [h0]
    · rw [if_neg h0] at h ⊢
      by_cases hb : i < 0 ∨ (zs.length : Int) ≤ i
      · rw [if_pos hb] at h; cases h
      · rw [if_neg hb] at h ⊢
        exact ih _ h

/-- Nobody comes in one step more who did not before. -/
def still (zs : List Int) (f : Nat) : Prop := ∀ i, comes zs (f + 1) i = comes zs f i

theorem still_succ (zs : List Int) (f : Nat) (h : still zs f) : still zs (f + 1) := by
  intro i
  rw [comes]
  conv => rhs; rw [comes]
  by_cases h0 : i = 0
  · simp [h0]
  · rw [if_neg h0, if_neg h0]
    by_cases hb : i < 0 ∨ (zs.length : Int) ≤ i
    · rw [if_pos hb, if_pos hb]
    · rw [if_neg hb, if_neg hb, h]

theorem still_or (zs : List Int) (hz : 0 < zs.length) : ∀ f : Nat, 0 < f → still zs f ∨ f + 1 ≤ count (fun k => comes zs (f + 1) (k : Int)) zs.length := by
  intro f
  induction f with
  | zero => intro h; omega
  | succ f ih =>
    intro _
    by_cases hs : still zs (f + 1)
    · exact .inl hs
    right
    have hex : ∃ i, comes zs (f + 1 + 1) i ≠ comes zs (f + 1) i := by
      apply Classical.byContradiction
      intro hn
      exact hs fun i => Classical.byContradiction fun hi => hn ⟨i, hi⟩
    obtain ⟨i, hi⟩ := hex
    have h1 : comes zs (f + 1) i = false := by
      cases hc : comes zs (f + 1) i with
      | false => rfl
      | true => exact absurd ((comes_mono zs _ _ hc).trans hc.symm) hi
    have h2 : comes zs (f + 1 + 1) i = true := by
      cases hc : comes zs (f + 1 + 1) i with
      | true => rfl
      | false => exact absurd (hc.trans h1.symm) hi
    have hin : 0 < i ∧ i < (zs.length : Int) := by
      rw [comes] at h2
      by_cases h0 : i = 0
      · rw [comes, if_pos h0] at h1; cases h1
      · rw [if_neg h0] at h2
        by_cases hb : i < 0 ∨ (zs.length : Int) ≤ i
        · rw [if_pos hb] at h2; cases h2
        · omega
    have hlt : count (fun k => comes zs (f + 1) (k : Int)) zs.length < count (fun k => comes zs (f + 1 + 1) (k : Int)) zs.length := by
      refine countP_lt _ (fun x _ h => comes_mono zs _ _ h) ⟨i.toNat, by rw [List.mem_range]; omega, ?_, ?_⟩
      · show comes zs (f + 1) ((i.toNat : Nat) : Int) = false
        rw [Int.toNat_of_nonneg (by omega)]; exact h1
      · show comes zs (f + 1 + 1) ((i.toNat : Nat) : Int) = true
        rw [Int.toNat_of_nonneg (by omega)]; exact h2
    by_cases hf : 0 < f
    · rcases ih hf with hst | hc
      · exact absurd (still_succ zs f hst) hs
      · omega
    · have hf0 : f = 0 := by omega
      subst hf0
      have h1 : 0 < count (fun k => comes zs (0 + 1) (k : Int)) zs.length := by
        unfold count
        rw [List.countP_pos_iff]
        exact ⟨0, by rw [List.mem_range]; omega, by simp [comes]⟩
      omega

theorem comes_enough (zs : List Int) (hz : 0 < zs.length) (i : Int) : comes zs (zs.length + 1) i = comes zs zs.length i := by
  rcases still_or zs hz zs.length hz with h | h
  · exact h i
  · have h3 : count (fun k => comes zs (zs.length + 1) (k : Int)) zs.length ≤ zs.length := by
      unfold count
      have := List.countP_le_length (p := fun k : Nat => comes zs (zs.length + 1) (k : Int)) (l := List.range zs.length)
      rw [List.length_range] at this
      exact this
    omega

theorem goes_is (zs : List Int) (k : Nat) (hk : k < zs.length) : goes zs zs.length k = comes zs (zs.length + 1) (k : Int) := by
  rw [goes_comes zs _ k hk, comes_enough zs (by omega)]

/-- All from a place on. -/
def allFrom (p : Nat → Bool) (n k : Nat) : Prop := ∀ j, k ≤ j → j < n → p j = true

/-- The document's answer, as a Bool. -/
def rightB (zs : List Int) (dr bu en wa : Int) : Bool :=
  inB (zs.length : Int) 2 6 && decide (zs.getD 0 0 = -1) && (List.range zs.length).all (fun k => goes zs zs.length k) && inB dr 0 500000 && inB bu 1 1000000 && inB en 1 4 && inB wa 1 4

end Go.Proofs.YtpdkojgepagbnaaDoor.Nums

namespace Go.Proofs.YtpdkojgepagbnaaDoor.Tier

structure Item where
  key : ByteArray
  ver : Int
  pres : Int
  val : ByteArray

structure Kept where
  key : ByteArray
  ver : Int
  pres : Int
  val : ByteArray
  base : Int
  since : Int

structure Wtr where
  node : Int
  id : Int
  serial : Int
  tag : Int

structure Ftc where
  key : ByteArray
  serial : Int
  sent : Int
  l : List Wtr

structure Cac where
  clock : Int
  ents : List Kept
  fts : List Ftc

structure Mes where
  kind : Int
  frm : Int
  to : Int
  key : ByteArray
  serial : Int
  ver : Int
  age : Int
  pres : Int
  val : ByteArray

structure Ans where
  node : Int
  id : Int
  kind : Int
  ver : Int
  pres : Int
  val : ByteArray
  age : Int

structure Conf where
  parents : List Int
  drift : Int
  budget : Int
  entries : Int
  waiters : Int

structure St where
  c : Conf
  items : List Item
  caches : List Cac
  net : List Mes
  answers : List Ans
  serial : Int

def empty : ByteArray := ⟨#[]⟩
def noCac : Cac := ⟨0, [], []⟩

def new (c : Conf) : St := ⟨c, [], List.replicate c.parents.length noCac, [], [], 0⟩

def St.item (t : St) (k : ByteArray) : Item := (t.items.find? fun x => decide (x.key = k)).getD ⟨k, 0, 0, empty⟩
def St.changes (t : St) (x : Item) : St := { t with items := t.items.filter (fun y => decide (y.key ≠ x.key)) ++ [x] }

def St.cac (t : St) (n : Nat) : Cac := t.caches.getD n noCac
def St.setCac (t : St) (n : Nat) (c : Cac) : St := { t with caches := t.caches.set n c }

/-- Time goes by at most so much, rounded up. -/
def elapsed (drift d : Int) : Int := (1000000 * d + (1000000 - drift) - 1) / (1000000 - drift)

def St.age (t : St) (n : Nat) (e : Kept) : Int := e.base + elapsed t.c.drift ((t.cac n).clock - e.since)
def St.entry (t : St) (n : Nat) (k : ByteArray) : Option Kept := (t.cac n).ents.find? fun e => decide (e.key = k)
def St.fetch (t : St) (n : Nat) (k : ByteArray) : Option Ftc := (t.cac n).fts.find? fun f => decide (f.key = k)
def St.fresh (t : St) (n : Nat) (k : ByteArray) : Bool := match t.entry n k with
  | some e => decide (t.age n e ≤ t.c.budget)
  | none => false

/-- An entry is used: it stands first; one more may be too many. -/
def St.uses (t : St) (n : Nat) (e : Kept) : St :=
  t.setCac n { t.cac n with ents := (e :: (t.cac n).ents.filter fun x => decide (x.key ≠ e.key)).take t.c.entries.toNat }

def St.waiting (t : St) (n : Nat) : Nat := ((t.cac n).fts.map fun f => f.l.length).sum

def St.refused (t : St) (n : Nat) (k : ByteArray) (w : Wtr) : St :=
  if w.node < 0 then { t with answers := t.answers ++ [⟨n, w.id, 2, 0, 0, empty, 0⟩] }
  else { t with net := t.net ++ [⟨4, n, w.node, k, w.serial, 0, 0, 0, empty⟩] }

/-- One is told by an entry, which is used. -/
def St.toldBy (t : St) (n : Nat) (e : Kept) (w : Wtr) : St :=
  if w.node < 0 then { t.uses n e with answers := t.answers ++ [⟨n, w.id, 1, e.ver, e.pres, e.val, t.age n e⟩] }
  else if w.tag = e.ver then { t.uses n e with net := t.net ++ [⟨3, n, w.node, e.key, w.serial, e.ver, t.age n e, 0, empty⟩] }
  else { t.uses n e with net := t.net ++ [⟨2, n, w.node, e.key, w.serial, e.ver, t.age n e, e.pres, e.val⟩] }

def St.sends (t : St) (n : Nat) (k : ByteArray) (tag : Int) (l : List Wtr) : St :=
  { t.setCac n { t.cac n with fts := (t.cac n).fts ++ [⟨k, t.serial + 1, (t.cac n).clock, l⟩] } with
    serial := t.serial + 1, net := t.net ++ [⟨1, n, t.c.parents.getD n 0, k, t.serial + 1, tag, 0, 0, empty⟩] }

def St.joins (t : St) (n : Nat) (k : ByteArray) (w : Wtr) : St :=
  t.setCac n { t.cac n with fts := (t.cac n).fts.map fun f => if f.key = k then { f with l := f.l ++ [w] } else f }

def St.wants (t : St) (n : Nat) (k : ByteArray) (w : Wtr) : St :=
  match t.entry n k with
  | some e =>
    if t.age n e ≤ t.c.budget then t.toldBy n e w
    else if t.c.waiters ≤ t.waiting n then t.refused n k w
    else if (t.fetch n k).isSome then t.joins n k w
    else t.sends n k e.ver [w]
  | none =>
    if t.c.waiters ≤ t.waiting n then t.refused n k w
    else if (t.fetch n k).isSome then t.joins n k w
    else t.sends n k (-1) [w]

def St.taken (t : St) (i : Nat) : St := { t with net := t.net.take i ++ t.net.drop (i + 1) }
def St.over (t : St) (n : Nat) (k : ByteArray) : St := t.setCac n { t.cac n with fts := (t.cac n).fts.filter fun f => decide (f.key ≠ k) }

def St.refuseAll (t : St) (n : Nat) (k : ByteArray) (l : List Wtr) : St := l.foldl (fun t w => t.refused n k w) t
/-- All who wait are told by the entry of a key. -/
def St.tellAll (t : St) (n : Nat) (k : ByteArray) (l : List Wtr) : St := l.foldl (fun t w => match t.entry n k with | some e => t.toldBy n e w | none => t) t

/-- The entry behind an answer of this version, present, value and base. -/
def St.better (t : St) (n : Nat) (m : Mes) (base : Int) : Kept :=
  match t.entry n m.key with
  | some e =>
    if e.ver < m.ver then ⟨m.key, m.ver, m.pres, m.val, base, (t.cac n).clock⟩
    else if e.ver = m.ver ∧ base ≤ t.age n e then { e with base := base, since := (t.cac n).clock }
    else e
  | none => ⟨m.key, m.ver, m.pres, m.val, base, (t.cac n).clock⟩

/-- An answer comes to a cache. -/
def St.answered (t : St) (n : Nat) (m : Mes) : St :=
  match t.fetch n m.key with
  | none => t
  | some f =>
    if f.serial ≠ m.serial then t
    else if m.kind = 4 then (t.over n m.key).refuseAll n m.key f.l
    else if m.kind = 3 ∧ (∀ e, t.entry n m.key = some e → e.ver ≠ m.ver) then (t.over n m.key).sends n m.key (-1) f.l
    else
      let e := t.better n m (m.age + elapsed t.c.drift ((t.cac n).clock - f.sent))
      let u := (t.over n m.key).uses n e
      if u.age n e ≤ u.c.budget then u.tellAll n m.key f.l else u.refuseAll n m.key f.l

def St.atOrigin (t : St) (m : Mes) : St :=
  let x := t.item m.key
  if x.ver = m.ver then { t with net := t.net ++ [⟨3, 0, m.frm, m.key, m.serial, x.ver, 0, 0, empty⟩] }
  else { t with net := t.net ++ [⟨2, 0, m.frm, m.key, m.serial, x.ver, 0, x.pres, x.val⟩] }

def St.comes (t : St) (m : Mes) : St :=
  if m.kind ≠ 1 then t.answered m.to.toNat m
  else if 0 < m.to then t.wants m.to.toNat m.key ⟨m.frm, 0, m.serial, m.ver⟩
  else t.atOrigin m

end Go.Proofs.YtpdkojgepagbnaaDoor.Tier

namespace Go.Proofs.YtpdkojgepagbnaaDoor.Tier

theorem cac_set (t : St) (n m : Nat) (c : Cac) : (t.setCac n c).cac m = if m = n ∧ n < t.caches.length then c else t.cac m := by
  unfold St.setCac St.cac
  simp only [List.getD_eq_getElem?_getD, List.getElem?_set]
  by_cases h : n = m
  · subst h
    by_cases hl : n < t.caches.length
    · simp [hl]
    · simp [hl]
  · have h' : ¬ m = n := fun e => h e.symm
    simp [h, h']

/-- Something is said of all entries, fetches, messages and answers. -/
structure Says (PE : Nat → Kept → Prop) (PF : Nat → Ftc → Prop) (PM : Mes → Prop) (PA : Ans → Prop) (t : St) : Prop where
  ents : ∀ n e, e ∈ (t.cac n).ents → PE n e
  fts : ∀ n f, f ∈ (t.cac n).fts → PF n f
  net : ∀ m, m ∈ t.net → PM m
  answers : ∀ a, a ∈ t.answers → PA a

section
variable {PE : Nat → Kept → Prop} {PF : Nat → Ftc → Prop} {PM : Mes → Prop} {PA : Ans → Prop}

theorem says_set {t : St} (h : Says PE PF PM PA t) (n : Nat) (c : Cac) (he : ∀ e ∈ c.ents, PE n e) (hf : ∀ f ∈ c.fts, PF n f) : Says PE PF PM PA (t.setCac n c) := by
  refine ⟨fun m e hm => ?_, fun m f hm => ?_, h.net, h.answers⟩
  · rw [cac_set] at hm
    split at hm
    · next hc => rw [hc.1]; exact he e hm
    · exact h.ents m e hm
  · rw [cac_set] at hm
    split at hm
    · next hc => rw [hc.1]; exact hf f hm
    · exact h.fts m f hm

theorem says_net {t : St} (h : Says PE PF PM PA t) (m : Mes) (hm : PM m) : Says PE PF PM PA { t with net := t.net ++ [m] } := by
  refine ⟨h.ents, h.fts, fun x hx => ?_, h.answers⟩
  rcases List.mem_append.1 hx with hx | hx
  · exact h.net x hx
  · rw [List.mem_singleton.1 hx]; exact hm

theorem says_ans {t : St} (h : Says PE PF PM PA t) (a : Ans) (ha : PA a) : Says PE PF PM PA { t with answers := t.answers ++ [a] } := by
  refine ⟨h.ents, h.fts, h.net, fun x hx => ?_⟩
  rcases List.mem_append.1 hx with hx | hx
  · exact h.answers x hx
  · rw [List.mem_singleton.1 hx]; exact ha

theorem says_uses {t : St} (h : Says PE PF PM PA t) (n : Nat) (e : Kept) (he : PE n e) : Says PE PF PM PA (t.uses n e) := by
  refine says_set h n _ (fun x hx => ?_) (fun f hf => h.fts n f hf)
  rcases List.mem_cons.1 (List.mem_of_mem_take hx) with rfl | hx
  · exact he
  · exact h.ents n x (List.mem_filter.1 hx).1

theorem says_refused {t : St} (h : Says PE PF PM PA t) (n : Nat) (k : ByteArray) (w : Wtr) (ha : w.node < 0 → PA ⟨n, w.id, 2, 0, 0, empty, 0⟩) (hm : ¬ w.node < 0 → PM ⟨4, n, w.node, k, w.serial, 0, 0, 0, empty⟩) : Says PE PF PM PA (t.refused n k w) := by
  unfold St.refused
  split
  · next c => exact says_ans h _ (ha c)
  · next c => exact says_net h _ (hm c)

theorem says_toldBy {t : St} (h : Says PE PF PM PA t) (n : Nat) (e : Kept) (w : Wtr) (he : PE n e) (ha : w.node < 0 → PA ⟨n, w.id, 1, e.ver, e.pres, e.val, t.age n e⟩)
    (hs : ¬ w.node < 0 → w.tag = e.ver → PM ⟨3, n, w.node, e.key, w.serial, e.ver, t.age n e, 0, empty⟩) (hf : ¬ w.node < 0 → ¬ w.tag = e.ver → PM ⟨2, n, w.node, e.key, w.serial, e.ver, t.age n e, e.pres, e.val⟩) : Says PE PF PM PA (t.toldBy n e w) := by
  have hu := says_uses h n e he
  unfold St.toldBy
  split
  · next c => exact says_ans hu _ (ha c)
  · next c =>
    split
    · next d => exact says_net hu _ (hs c d)
    · next d => exact says_net hu _ (hf c d)

theorem says_sends {t : St} (h : Says PE PF PM PA t) (n : Nat) (k : ByteArray) (tag : Int) (l : List Wtr) (hf : PF n ⟨k, t.serial + 1, (t.cac n).clock, l⟩) (hm : PM ⟨1, n, t.c.parents.getD n 0, k, t.serial + 1, tag, 0, 0, empty⟩) : Says PE PF PM PA (t.sends n k tag l) := by
  have hs := says_set h n { t.cac n with fts := (t.cac n).fts ++ [⟨k, t.serial + 1, (t.cac n).clock, l⟩] } (fun e he => h.ents n e he) (fun f hf' => by
    rcases List.mem_append.1 hf' with hf' | hf'
    · exact h.fts n f hf'
    · rw [List.mem_singleton.1 hf']; exact hf)
  refine ⟨hs.ents, hs.fts, fun x hx => ?_, hs.answers⟩
  rcases List.mem_append.1 hx with hx | hx
  · exact h.net x hx
  · rw [List.mem_singleton.1 hx]; exact hm

theorem says_joins {t : St} (h : Says PE PF PM PA t) (n : Nat) (k : ByteArray) (w : Wtr) (hj : ∀ f, f ∈ (t.cac n).fts → f.key = k → PF n { f with l := f.l ++ [w] }) : Says PE PF PM PA (t.joins n k w) := by
  refine says_set h n _ (fun e he => h.ents n e he) (fun f hf => ?_)
  obtain ⟨g, hg, rfl⟩ := List.mem_map.1 hf
  split
  · next c => exact hj g hg c
  · exact h.fts n g hg

theorem says_over {t : St} (h : Says PE PF PM PA t) (n : Nat) (k : ByteArray) : Says PE PF PM PA (t.over n k) :=
  says_set h n _ (fun e he => h.ents n e he) (fun f hf => h.fts n f (List.mem_filter.1 hf).1)

theorem says_taken {t : St} (h : Says PE PF PM PA t) (i : Nat) : Says PE PF PM PA (t.taken i) := by
  refine ⟨h.ents, h.fts, fun x hx => ?_, h.answers⟩
  rcases List.mem_append.1 hx with hx | hx
  · exact h.net x (List.mem_of_mem_take hx)
  · exact h.net x (List.mem_of_mem_drop hx)

end
end Go.Proofs.YtpdkojgepagbnaaDoor.Tier

namespace Go.Proofs.YtpdkojgepagbnaaDoor.Tier

/-- The origin's key from a time on. -/
structure Was where
  key : ByteArray
  ver : Int
  pres : Int
  val : ByteArray
  frm : Int

/-- This was the origin's at some time. -/
def Known (h : List Was) (k : ByteArray) (v p : Int) (x : ByteArray) : Prop := (v = 0 ∧ p = 0 ∧ x = empty) ∨ ∃ r ∈ h, r.key = k ∧ r.ver = v ∧ r.pres = p ∧ r.val = x
/-- It was not followed by another ahead of a time. -/
def Late (h : List Was) (k : ByteArray) (v T : Int) : Prop := ∀ r ∈ h, r.key = k → v < r.ver → T ≤ r.frm

theorem Late.mono {h : List Was} {k : ByteArray} {v T T' : Int} (hl : Late h k v T) (hT : T' ≤ T) : Late h k v T' := fun r hr hk hv => Int.le_trans hT (hl r hr hk hv)
theorem Known.more {h : List Was} {k : ByteArray} {v p : Int} {x : ByteArray} (hk : Known h k v p x) (r : Was) : Known (h ++ [r]) k v p x := by
  rcases hk with hz | ⟨s, hs, he⟩
  · exact .inl hz
  · exact .inr ⟨s, List.mem_append_left _ hs, he⟩
theorem Late.more {h : List Was} {k : ByteArray} {v T : Int} (hl : Late h k v T) (r : Was) (hr : T ≤ r.frm) : Late (h ++ [r]) k v T := by
  intro s hs hk hv
  rcases List.mem_append.1 hs with hs | hs
  · exact hl s hs hk hv
  · rw [List.mem_singleton.1 hs]; exact hr

theorem elapsed_ge {drift d x : Int} (h0 : drift ≤ 500000) (h : (1000000 - drift) * x ≤ 1000000 * d) : x ≤ elapsed drift d := by
  unfold elapsed
  rw [Int.le_ediv_iff_mul_le (by omega), Int.mul_comm]
  omega
theorem elapsed_nonneg {drift d : Int} (h0 : drift ≤ 500000) (h : 0 ≤ d) : 0 ≤ elapsed drift d := elapsed_ge h0 (by omega)

/-- What is known beside the tier: whether clocks keep to the drift; the origin's past; the time; when each serial was given; which key each client asked for; the serials so far; the clocks. -/
structure G where
  tm : Prop
  h : List Was
  now : Int
  tau : Int → Int
  kid : Int → ByteArray
  S : Int
  c : Conf
  clk : Nat → Int

def WOK (g : G) (k : ByteArray) (w : Wtr) : Prop := (w.node < 0 → g.kid w.id = k) ∧ (¬ w.node < 0 → 0 < w.node ∧ w.node < g.c.parents.length ∧ w.serial ≤ g.S ∧ g.tau w.serial ≤ g.now)
def PE (g : G) (n : Nat) (e : Kept) : Prop := (0 < n ∧ n < g.c.parents.length) ∧ Known g.h e.key e.ver e.pres e.val ∧ 0 ≤ e.base ∧ e.since ≤ g.clk n ∧ (g.tm → ∃ T, T ≤ g.now ∧ Late g.h e.key e.ver (T - e.base) ∧ (1000000 - g.c.drift) * (g.now - T) ≤ 1000000 * (g.clk n - e.since))
def PF (g : G) (n : Nat) (f : Ftc) : Prop := (0 < n ∧ n < g.c.parents.length) ∧ f.serial ≤ g.S ∧ f.sent ≤ g.clk n ∧ (g.tm → (1000000 - g.c.drift) * (g.now - g.tau f.serial) ≤ 1000000 * (g.clk n - f.sent)) ∧ ∀ w ∈ f.l, WOK g f.key w
def PM (g : G) (m : Mes) : Prop := m.serial ≤ g.S ∧ g.tau m.serial ≤ g.now ∧ 0 ≤ m.to ∧ m.to < g.c.parents.length ∧ (m.kind ≠ 1 → 0 < m.to) ∧ (m.kind = 1 → 0 < m.frm ∧ m.frm < g.c.parents.length) ∧ (m.kind = 2 → Known g.h m.key m.ver m.pres m.val) ∧
  (m.kind = 2 ∨ m.kind = 3 → 0 ≤ m.age ∧ (g.tm → ∃ T, g.tau m.serial ≤ T ∧ T ≤ g.now ∧ Late g.h m.key m.ver (T - m.age))) ∧ (m.kind = 1 ∨ m.kind = 2 ∨ m.kind = 3 ∨ m.kind = 4)
def PA (g : G) (a : Ans) : Prop := (a.kind = 2 ∧ a.ver = 0 ∧ a.pres = 0 ∧ a.val = empty ∧ a.age = 0) ∨
  (a.kind = 1 ∧ Known g.h (g.kid a.id) a.ver a.pres a.val ∧ 0 ≤ a.age ∧ a.age ≤ g.c.budget ∧ (g.tm → Late g.h (g.kid a.id) a.ver (g.now - a.age)))

structure Inv (g : G) (t : St) : Prop where
  says : Says (PE g) (PF g) (PM g) (PA g) t
  items : ∀ k, Known g.h k (t.item k).ver (t.item k).pres (t.item k).val ∧ ∀ r ∈ g.h, r.key = k → r.ver ≤ (t.item k).ver
  serial : t.serial = g.S
  conf : t.c = g.c
  clk : ∀ n, (t.cac n).clock = g.clk n
  size : t.caches.length = g.c.parents.length
  drift : 0 ≤ g.c.drift ∧ g.c.drift ≤ 500000
  room : 1 ≤ g.c.entries
  up : ∀ n : Nat, 0 < n → n < g.c.parents.length → 0 ≤ g.c.parents.getD n 0 ∧ g.c.parents.getD n 0 < g.c.parents.length

theorem Inv.of_says {g : G} {t u : St} (h : Inv g t) (hs : Says (PE g) (PF g) (PM g) (PA g) u) (hi : u.items = t.items) (hn : u.serial = t.serial) (hc : u.c = t.c) (hk : ∀ n, (u.cac n).clock = (t.cac n).clock) (hl : u.caches.length = t.caches.length) : Inv g u :=
  ⟨hs, fun k => by have := h.items k; unfold St.item at *; rw [hi]; exact this, hn.trans h.serial, hc.trans h.conf, fun n => (hk n).trans (h.clk n), hl.trans h.size, h.drift, h.room, h.up⟩

theorem clock_set (t : St) (n m : Nat) (c : Cac) (hc : c.clock = (t.cac n).clock) : ((t.setCac n c).cac m).clock = (t.cac m).clock := by
  rw [cac_set]
  split
  · next h => rw [h.1]; exact hc
  · rfl
theorem length_set (t : St) (n : Nat) (c : Cac) : (t.setCac n c).caches.length = t.caches.length := by simp [St.setCac]

/-- An entry's age is no less than the time since. -/
theorem age_late {g : G} {t : St} (h : Inv g t) {n : Nat} {e : Kept} (he : PE g n e) : 0 ≤ t.age n e ∧ (g.tm → Late g.h e.key e.ver (g.now - t.age n e)) := by
  obtain ⟨_, _, hb, hs, ht⟩ := he
  unfold St.age
  rw [h.conf, h.clk n]
  have h0 := elapsed_nonneg (d := g.clk n - e.since) h.drift.2 (by omega)
  refine ⟨by omega, fun tm => ?_⟩
  obtain ⟨T, hT, hl, hc⟩ := ht tm
  have := elapsed_ge h.drift.2 hc
  exact hl.mono (by omega)

theorem inv_uses {g : G} {t : St} (h : Inv g t) (n : Nat) (e : Kept) (he : PE g n e) : Inv g (t.uses n e) :=
  h.of_says (says_uses h.says n e he) rfl rfl rfl (fun m => clock_set t n m _ rfl) (length_set t n _)

theorem pm_refuse {g : G} {k : ByteArray} {w : Wtr} (n : Int) (hw : WOK g k w) (c : ¬ w.node < 0) : PM g ⟨4, n, w.node, k, w.serial, 0, 0, 0, empty⟩ := by
  obtain ⟨a, b, d, e⟩ := hw.2 c
  exact ⟨d, e, Int.le_of_lt a, b, fun _ => a, fun (hk : (4 : Int) = 1) => absurd hk (by decide), fun (hk : (4 : Int) = 2) => absurd hk (by decide), fun (hk : (4 : Int) = 2 ∨ (4 : Int) = 3) => absurd hk (by decide), .inr (.inr (.inr rfl))⟩

theorem pm_same {g : G} {k key : ByteArray} {w : Wtr} {v a : Int} (n : Int) (hw : WOK g k w) (c : ¬ w.node < 0) (ha : 0 ≤ a) (hl : g.tm → Late g.h key v (g.now - a)) : PM g ⟨3, n, w.node, key, w.serial, v, a, 0, empty⟩ := by
  obtain ⟨p, b, d, e⟩ := hw.2 c
  exact ⟨d, e, Int.le_of_lt p, b, fun _ => p, fun (hk : (3 : Int) = 1) => absurd hk (by decide), fun (hk : (3 : Int) = 2) => absurd hk (by decide), fun _ => ⟨ha, fun tm => ⟨g.now, e, Int.le_refl _, hl tm⟩⟩, .inr (.inr (.inl rfl))⟩

theorem pm_full {g : G} {k key : ByteArray} {w : Wtr} {v a pr : Int} {x : ByteArray} (n : Int) (hw : WOK g k w) (c : ¬ w.node < 0) (hk : Known g.h key v pr x) (ha : 0 ≤ a) (hl : g.tm → Late g.h key v (g.now - a)) : PM g ⟨2, n, w.node, key, w.serial, v, a, pr, x⟩ := by
  obtain ⟨p, b, d, e⟩ := hw.2 c
  exact ⟨d, e, Int.le_of_lt p, b, fun _ => p, fun (hk : (2 : Int) = 1) => absurd hk (by decide), fun _ => hk, fun _ => ⟨ha, fun tm => ⟨g.now, e, Int.le_refl _, hl tm⟩⟩, .inr (.inl rfl)⟩

theorem inv_refused {g : G} {t : St} (h : Inv g t) (n : Nat) (k : ByteArray) (w : Wtr) (hw : WOK g k w) : Inv g (t.refused n k w) := by
  have hs : Says (PE g) (PF g) (PM g) (PA g) (t.refused n k w) := says_refused h.says n k w (fun _ => .inl ⟨rfl, rfl, rfl, rfl, rfl⟩) (fun c => pm_refuse n hw c)
  unfold St.refused at *
  split
  · next c => rw [if_pos c] at hs; exact h.of_says hs rfl rfl rfl (fun _ => rfl) rfl
  · next c => rw [if_neg c] at hs; exact h.of_says hs rfl rfl rfl (fun _ => rfl) rfl

theorem inv_toldBy {g : G} {t : St} (h : Inv g t) (n : Nat) (e : Kept) (w : Wtr) (he : PE g n e) (hf : t.age n e ≤ g.c.budget) (hw : WOK g e.key w) : Inv g (t.toldBy n e w) := by
  obtain ⟨ha, hl⟩ := age_late h he
  have hs : Says (PE g) (PF g) (PM g) (PA g) (t.toldBy n e w) := says_toldBy h.says n e w he
    (fun c => .inr ⟨rfl, by show Known g.h (g.kid w.id) e.ver e.pres e.val; rw [hw.1 c]; exact he.2.1, ha, hf, fun tm => by show Late g.h (g.kid w.id) e.ver _; rw [hw.1 c]; exact hl tm⟩)
    (fun c _ => pm_same n hw c ha hl)
    (fun c _ => pm_full n hw c he.2.1 ha hl)
  have hu := inv_uses h n e he
  unfold St.toldBy at *
  split
  · next c => rw [if_pos c] at hs; exact hu.of_says hs rfl rfl rfl (fun _ => rfl) rfl
  · next c =>
    rw [if_neg c] at hs
    split
    · next d => rw [if_pos d] at hs; exact hu.of_says hs rfl rfl rfl (fun _ => rfl) rfl
    · next d => rw [if_neg d] at hs; exact hu.of_says hs rfl rfl rfl (fun _ => rfl) rfl

/-- A new serial is given. -/
def G.next (g : G) : G := { g with S := g.S + 1, tau := fun s => if s = g.S + 1 then g.now else g.tau s }

theorem tau_next {g : G} {s : Int} (h : s ≤ g.S) : g.next.tau s = g.tau s := by
  show (if s = g.S + 1 then g.now else g.tau s) = g.tau s
  rw [if_neg (by omega)]

theorem WOK.next {g : G} {k : ByteArray} {w : Wtr} (h : WOK g k w) : WOK g.next k w := by
  refine ⟨h.1, fun c => ?_⟩
  obtain ⟨a, b, d, e⟩ := h.2 c
  exact ⟨a, b, by show w.serial ≤ g.S + 1; omega, by rw [tau_next d]; exact e⟩
theorem PF.next {g : G} {n : Nat} {f : Ftc} (h : PF g n f) : PF g.next n f := by
  obtain ⟨n0, a, b, c, d⟩ := h
  exact ⟨n0, by show f.serial ≤ g.S + 1; omega, b, fun tm => by rw [tau_next a]; exact c tm, fun w hw => (d w hw).next⟩
theorem PM.next {g : G} {m : Mes} (h : PM g m) : PM g.next m := by
  obtain ⟨a, b, c, d, e, f, i, j, l⟩ := h
  refine ⟨by show m.serial ≤ g.S + 1; omega, by rw [tau_next a]; exact b, c, d, e, f, i, fun hk => ?_, l⟩
  obtain ⟨x, y⟩ := j hk
  exact ⟨x, fun tm => by rw [tau_next a]; exact y tm⟩

theorem says_next {g : G} {t : St} (h : Says (PE g) (PF g) (PM g) (PA g) t) : Says (PE g.next) (PF g.next) (PM g.next) (PA g.next) t :=
  ⟨h.ents, fun n f hf => (h.fts n f hf).next, fun m hm => (h.net m hm).next, h.answers⟩

theorem inv_sends {g : G} {t : St} (h : Inv g t) (n : Nat) (hn : 0 < n) (hl : n < g.c.parents.length) (k : ByteArray) (tag : Int) (l : List Wtr) (hw : ∀ w ∈ l, WOK g k w) : Inv g.next (t.sends n k tag l) := by
  have hup := h.up n hn hl
  have hS := h.serial
  have htau : g.next.tau (t.serial + 1) = g.now := by show (if t.serial + 1 = g.S + 1 then g.now else g.tau _) = g.now; rw [if_pos (by omega)]
  have hs : Says (PE g.next) (PF g.next) (PM g.next) (PA g.next) (t.sends n k tag l) := by
    refine says_sends (says_next h.says) n k tag l ⟨⟨hn, hl⟩, ?_, ?_, fun _ => ?_, fun w hw' => (hw w hw').next⟩ ⟨?_, ?_, ?_, ?_, fun (hk : (1 : Int) ≠ 1) => absurd rfl hk, fun _ => ⟨?_, ?_⟩, fun (hk : (1 : Int) = 2) => absurd hk (by decide), fun (hk : (1 : Int) = 2 ∨ (1 : Int) = 3) => absurd hk (by decide), .inl rfl⟩
    · show t.serial + 1 ≤ g.S + 1; omega
    · show (t.cac n).clock ≤ g.clk n; rw [h.clk n]; exact Int.le_refl _
    · show (1000000 - g.c.drift) * (g.now - g.next.tau (t.serial + 1)) ≤ 1000000 * (g.clk n - (t.cac n).clock)
      rw [htau, h.clk n]; simp
    · show t.serial + 1 ≤ g.S + 1; omega
    · show g.next.tau (t.serial + 1) ≤ g.now; rw [htau]; exact Int.le_refl _
    · show 0 ≤ t.c.parents.getD n 0; rw [h.conf]; exact hup.1
    · show t.c.parents.getD n 0 < (g.c.parents.length : Int); rw [h.conf]; exact hup.2
    · show (0 : Int) < n; omega
    · show (n : Int) < g.c.parents.length; omega
  exact ⟨hs, h.items, by show t.serial + 1 = g.S + 1; omega, h.conf, fun m => (clock_set t n m { t.cac n with fts := (t.cac n).fts ++ [⟨k, t.serial + 1, (t.cac n).clock, l⟩] } rfl).trans (h.clk m), (length_set t n _).trans h.size, h.drift, h.room, h.up⟩

theorem inv_joins {g : G} {t : St} (h : Inv g t) (n : Nat) (k : ByteArray) (w : Wtr) (hw : WOK g k w) : Inv g (t.joins n k w) := by
  refine h.of_says (says_joins h.says n k w (fun f hf hk => ?_)) rfl rfl rfl (fun m => clock_set t n m _ rfl) (length_set t n _)
  obtain ⟨n0, a, b, c, d⟩ := h.says.fts n f hf
  refine ⟨n0, a, b, c, fun x hx => ?_⟩
  rcases List.mem_append.1 hx with hx | hx
  · exact d x hx
  · rw [List.mem_singleton.1 hx]; show WOK g f.key w; rw [hk]; exact hw

/-- What a call may do beside: give a serial or none. -/
def Goes (g : G) (u : St) : Prop := Inv g u ∨ Inv g.next u

theorem find_mem {α : Type} {p : α → Bool} {l : List α} {x : α} (h : l.find? p = some x) : x ∈ l ∧ p x = true := ⟨List.mem_of_find?_eq_some h, List.find?_some h⟩

theorem entry_of {g : G} {t : St} (h : Inv g t) {n : Nat} {k : ByteArray} {e : Kept} (he : t.entry n k = some e) : PE g n e ∧ e.key = k := by
  obtain ⟨hm, hk⟩ := find_mem he
  exact ⟨h.says.ents n e hm, of_decide_eq_true hk⟩
theorem fetch_of {g : G} {t : St} (h : Inv g t) {n : Nat} {k : ByteArray} {f : Ftc} (hf : t.fetch n k = some f) : PF g n f ∧ f.key = k := by
  obtain ⟨hm, hk⟩ := find_mem hf
  exact ⟨h.says.fts n f hm, of_decide_eq_true hk⟩

theorem inv_wants {g : G} {t : St} (h : Inv g t) (n : Nat) (hn : 0 < n) (hl : n < g.c.parents.length) (k : ByteArray) (w : Wtr) (hw : WOK g k w) : Goes g (t.wants n k w) := by
  unfold St.wants
  split
  · next e he =>
    obtain ⟨hp, hk⟩ := entry_of h he
    split
    · next hf => exact .inl (inv_toldBy h n e w hp (by rw [h.conf] at hf; exact hf) (by rw [hk]; exact hw))
    · split
      · exact .inl (inv_refused h n k w hw)
      · split
        · exact .inl (inv_joins h n k w hw)
        · exact .inr (inv_sends h n hn hl k _ _ (fun x hx => by rw [List.mem_singleton.1 hx]; exact hw))
  · split
    · exact .inl (inv_refused h n k w hw)
    · split
      · exact .inl (inv_joins h n k w hw)
      · exact .inr (inv_sends h n hn hl k _ _ (fun x hx => by rw [List.mem_singleton.1 hx]; exact hw))

theorem inv_over {g : G} {t : St} (h : Inv g t) (n : Nat) (k : ByteArray) : Inv g (t.over n k) :=
  h.of_says (says_over h.says n k) rfl rfl rfl (fun m => clock_set t n m _ rfl) (length_set t n _)
theorem inv_taken {g : G} {t : St} (h : Inv g t) (i : Nat) : Inv g (t.taken i) := h.of_says (says_taken h.says i) rfl rfl rfl (fun _ => rfl) rfl

theorem inv_refuseAll {g : G} (n : Nat) (k : ByteArray) : ∀ (l : List Wtr) {t : St}, Inv g t → (∀ w ∈ l, WOK g k w) → Inv g (t.refuseAll n k l)
  | [], _, h, _ => h
  | w :: l, _, h, hw => inv_refuseAll n k l (inv_refused h n k w (hw w List.mem_cons_self)) (fun x hx => hw x (List.mem_cons_of_mem _ hx))

theorem cac_uses {t : St} {n : Nat} {e : Kept} (hn : n < t.caches.length) : (t.uses n e).cac n = { t.cac n with ents := (e :: (t.cac n).ents.filter fun x => decide (x.key ≠ e.key)).take t.c.entries.toNat } := by
  unfold St.uses; rw [cac_set, if_pos ⟨rfl, hn⟩]
theorem entry_uses {t : St} {n : Nat} {e : Kept} (hn : n < t.caches.length) (hr : 1 ≤ t.c.entries) : (t.uses n e).entry n e.key = some e := by
  obtain ⟨m, hm⟩ : ∃ m, t.c.entries.toNat = m + 1 := ⟨t.c.entries.toNat - 1, by omega⟩
  unfold St.entry
  rw [cac_uses hn, hm]
  simp
theorem age_uses {t : St} {n : Nat} (e x : Kept) : (t.uses n e).age n x = t.age n x := by
  unfold St.age
  have hc : ((t.uses n e).cac n).clock = (t.cac n).clock := clock_set t n n _ rfl
  rw [hc]; rfl

theorem told_parts (t : St) (n : Nat) (e : Kept) (w : Wtr) : (t.toldBy n e w).caches = (t.uses n e).caches ∧ (t.toldBy n e w).c = t.c := by
  unfold St.toldBy
  split
  · exact ⟨rfl, rfl⟩
  · split <;> exact ⟨rfl, rfl⟩
theorem entry_told {t : St} {n : Nat} {e : Kept} (w : Wtr) (hn : n < t.caches.length) (hr : 1 ≤ t.c.entries) : (t.toldBy n e w).entry n e.key = some e := by
  have := entry_uses (e := e) hn hr
  unfold St.entry St.cac at *
  rw [(told_parts t n e w).1]; exact this
theorem age_told {t : St} {n : Nat} (e x : Kept) (w : Wtr) : (t.toldBy n e w).age n x = t.age n x := by
  have := age_uses (t := t) (n := n) e x
  unfold St.age St.cac at *
  rw [(told_parts t n e w).1, (told_parts t n e w).2]; exact this

theorem inv_tellAll {g : G} (n : Nat) (k : ByteArray) (e : Kept) (hk : e.key = k) (hp : PE g n e) (hn : n < g.c.parents.length) : ∀ (l : List Wtr) {t : St}, Inv g t → t.entry n k = some e → t.age n e ≤ g.c.budget → (∀ w ∈ l, WOK g k w) → Inv g (t.tellAll n k l)
  | [], _, h, _, _, _ => h
  | w :: l, t, h, he, ha, hw => by
    have h1 : t.tellAll n k (w :: l) = (t.toldBy n e w).tellAll n k l := by
      show List.foldl _ _ _ = _
      rw [List.foldl_cons, he]; rfl
    rw [h1]
    have hlen : n < t.caches.length := by rw [h.size]; exact hn
    refine inv_tellAll n k e hk hp hn l (inv_toldBy h n e w hp ha (by rw [hk]; exact hw w List.mem_cons_self)) ?_ ?_ (fun x hx => hw x (List.mem_cons_of_mem _ hx))
    · rw [← hk]; exact entry_told w hlen (by rw [h.conf]; exact h.room)
    · rw [age_told]; exact ha

theorem cac_over_ents (t : St) (n : Nat) (k : ByteArray) : ((t.over n k).cac n).ents = (t.cac n).ents := by
  unfold St.over; rw [cac_set]; split <;> rfl
theorem clock_over (t : St) (n m : Nat) (k : ByteArray) : ((t.over n k).cac m).clock = (t.cac m).clock := clock_set t n m _ rfl

/-- The entry behind an answer keeps what is said of entries. -/
theorem pe_better {g : G} {t : St} (h : Inv g t) (n : Nat) (m : Mes) (f : Ftc) (hf : PF g n f) (hs : f.serial = m.serial) (hm : PM g m) (hk : m.kind = 2 ∨ m.kind = 3) (hsame : m.kind = 3 → ∃ e, t.entry n m.key = some e ∧ e.ver = m.ver) :
    PE g n (t.better n m (m.age + elapsed t.c.drift ((t.cac n).clock - f.sent))) ∧ (t.better n m (m.age + elapsed t.c.drift ((t.cac n).clock - f.sent))).key = m.key := by
  rw [h.conf, h.clk n]
  obtain ⟨hn0, _, hsent, htf, _⟩ := hf
  obtain ⟨_, _, _, _, _, _, hfull, hans, _⟩ := hm
  obtain ⟨ha, hT⟩ := hans hk
  have he0 := elapsed_nonneg (d := g.clk n - f.sent) h.drift.2 (by omega)
  have hbase : g.tm → Late g.h m.key m.ver (g.now - (m.age + elapsed g.c.drift (g.clk n - f.sent))) := fun tm => by
    obtain ⟨T, h1, h2, h3⟩ := hT tm
    have h4 := elapsed_ge h.drift.2 (htf tm)
    rw [hs] at h4
    exact h3.mono (by omega)
  have hnew : m.kind = 2 → PE g n ⟨m.key, m.ver, m.pres, m.val, m.age + elapsed g.c.drift (g.clk n - f.sent), (t.cac n).clock⟩ := fun h2 =>
    ⟨hn0, hfull h2, by show 0 ≤ m.age + elapsed _ _; omega, by show (t.cac n).clock ≤ _; rw [h.clk n]; exact Int.le_refl _, fun tm => ⟨g.now, Int.le_refl _, hbase tm, by show _ ≤ 1000000 * (g.clk n - (t.cac n).clock); rw [h.clk n]; simp⟩⟩
  unfold St.better
  split
  · next e he =>
    obtain ⟨hp, hek⟩ := entry_of h he
    split
    · next hlt =>
      have h2 : m.kind = 2 := by
        rcases hk with h2 | h3
        · exact h2
        · obtain ⟨e', he', hv'⟩ := hsame h3
          rw [he] at he'
          cases he'
          omega
      exact ⟨hnew h2, rfl⟩
    · split
      · next hc =>
        refine ⟨⟨hn0, hp.2.1, by show 0 ≤ m.age + elapsed _ _; omega, by show (t.cac n).clock ≤ _; rw [h.clk n]; exact Int.le_refl _, fun tm => ⟨g.now, Int.le_refl _, ?_, by show _ ≤ 1000000 * (g.clk n - (t.cac n).clock); rw [h.clk n]; simp⟩⟩, hek⟩
        show Late g.h e.key e.ver _
        rw [hek, hc.1]
        exact hbase tm
      · exact ⟨hp, hek⟩
  · next he =>
    have h2 : m.kind = 2 := by
      rcases hk with h2 | h3
      · exact h2
      · obtain ⟨e', he', _⟩ := hsame h3
        rw [he] at he'
        cases he'
    exact ⟨hnew h2, rfl⟩

theorem inv_answered {g : G} {t : St} (h : Inv g t) (n : Nat) (hn : 0 < n) (hl : n < g.c.parents.length) (m : Mes) (hm : PM g m) (hk : m.kind ≠ 1) : Goes g (t.answered n m) := by
  unfold St.answered
  split
  · exact .inl h
  · next f hf =>
    obtain ⟨hpf, hfk⟩ := fetch_of h hf
    have hw : ∀ w ∈ f.l, WOK g m.key w := fun w hw => by rw [← hfk]; exact hpf.2.2.2.2 w hw
    have ho := inv_over h n m.key
    split
    · exact .inl h
    · next hs =>
      have hs' : f.serial = m.serial := Classical.byContradiction hs
      split
      · exact .inl (inv_refuseAll n m.key f.l ho hw)
      · next h4 =>
        split
        · exact .inr (inv_sends ho n hn hl m.key _ _ hw)
        · next h3 =>
          have hk23 : m.kind = 2 ∨ m.kind = 3 := by
            rcases hm.2.2.2.2.2.2.2.2 with h1 | h2 | h3' | h4'
            · exact absurd h1 hk
            · exact .inl h2
            · exact .inr h3'
            · exact absurd h4' h4
          have hsame : m.kind = 3 → ∃ e, t.entry n m.key = some e ∧ e.ver = m.ver := fun hk3 => by
            apply Classical.byContradiction
            intro hno
            exact h3 ⟨hk3, fun e he hv => hno ⟨e, he, hv⟩⟩
          obtain ⟨hp, hbk⟩ := pe_better h n m f hpf hs' hm hk23 hsame
          generalize t.better n m (m.age + elapsed t.c.drift ((t.cac n).clock - f.sent)) = e at *
          have hu := inv_uses ho n e hp
          have hlen : n < (t.over n m.key).caches.length := by rw [ho.size]; exact hl
          show Goes g (if ((t.over n m.key).uses n e).age n e ≤ ((t.over n m.key).uses n e).c.budget then _ else _)
          split
          · next hb =>
            rw [hu.conf] at hb
            exact .inl (inv_tellAll n m.key e hbk hp hl f.l hu (by have this := entry_uses (e := e) hlen (by rw [ho.conf]; exact h.room); rw [hbk] at this; exact this) hb hw)
          · exact .inl (inv_refuseAll n m.key f.l hu hw)

theorem inv_atOrigin {g : G} {t : St} (h : Inv g t) (m : Mes) (hm : PM g m) (hk : m.kind = 1) : Inv g (t.atOrigin m) := by
  obtain ⟨hi, hv⟩ := h.items m.key
  obtain ⟨a, b, _, _, _, hf, _, _, _⟩ := hm
  obtain ⟨f1, f2⟩ := hf hk
  have hl : g.tm → Late g.h m.key (t.item m.key).ver (g.now - 0) := fun _ r hr hrk hrv => by have := hv r hr hrk; omega
  have hw : WOK g m.key ⟨m.frm, 0, m.serial, 0⟩ := ⟨fun (c : m.frm < 0) => by omega, fun _ => ⟨f1, f2, a, b⟩⟩
  have hc : ¬ (⟨m.frm, 0, m.serial, 0⟩ : Wtr).node < 0 := by show ¬ m.frm < 0; omega
  unfold St.atOrigin
  show Inv g (if (t.item m.key).ver = m.ver then _ else _)
  split
  · exact h.of_says (says_net h.says _ (pm_same 0 hw hc (Int.le_refl _) hl)) rfl rfl rfl (fun _ => rfl) rfl
  · exact h.of_says (says_net h.says _ (pm_full 0 hw hc hi (Int.le_refl _) hl)) rfl rfl rfl (fun _ => rfl) rfl

theorem inv_comes {g : G} {t : St} (h : Inv g t) (m : Mes) (hm : PM g m) : Goes g (t.comes m) := by
  have h1 := hm.2.2.1
  have h2 := hm.2.2.2.1
  unfold St.comes
  split
  · next hk =>
    have h3 := hm.2.2.2.2.1 hk
    exact inv_answered h _ (by omega) (by omega) m hm hk
  · next hk =>
    have hk' : m.kind = 1 := Classical.byContradiction hk
    split
    · next hp =>
      obtain ⟨f1, f2⟩ := hm.2.2.2.2.2.1 hk'
      exact inv_wants h _ (by omega) (by omega) m.key _ ⟨fun (c : m.frm < 0) => by omega, fun _ => ⟨f1, f2, hm.1, hm.2.1⟩⟩
    · exact .inl (inv_atOrigin h m hm hk')

theorem Goes.inv {g : G} {u : St} (h : Goes g u) : ∃ g', Inv g' u ∧ g'.tm = g.tm ∧ g'.h = g.h ∧ g'.now = g.now ∧ g'.kid = g.kid ∧ g'.c = g.c ∧ g'.clk = g.clk := by
  rcases h with h | h
  · exact ⟨g, h, rfl, rfl, rfl, rfl, rfl, rfl⟩
  · exact ⟨g.next, h, rfl, rfl, rfl, rfl, rfl, rfl⟩

/-- A message doubled. -/
theorem inv_double {g : G} {t : St} (h : Inv g t) (m : Mes) (hm : m ∈ t.net) : Inv g { t with net := t.net ++ [m] } :=
  h.of_says (says_net h.says m (h.says.net m hm)) rfl rfl rfl (fun _ => rfl) rfl

/-- A cache crashes. -/
theorem inv_crash {g : G} {t : St} (h : Inv g t) (n : Nat) : Inv g (t.setCac n ⟨(t.cac n).clock, [], []⟩) :=
  h.of_says (says_set h.says n _ (fun e he => by cases he) (fun f hf => by cases hf)) rfl rfl rfl (fun m => clock_set t n m _ rfl) (length_set t n _)

/-- The answers are told. -/
theorem inv_told {g : G} {t : St} (h : Inv g t) : Inv g { t with answers := [] } :=
  h.of_says ⟨h.says.ents, h.says.fts, h.says.net, fun a ha => by cases ha⟩ rfl rfl rfl (fun _ => rfl) rfl

theorem item_changes_same (t : St) (x : Item) : (t.changes x).item x.key = x := by
  unfold St.changes St.item
  rw [List.find?_append]
  have : (t.items.filter fun y => decide (y.key ≠ x.key)).find? (fun y => decide (y.key = x.key)) = none := by
    rw [List.find?_eq_none]
    intro y hy
    have := of_decide_eq_true (List.mem_filter.1 hy).2
    simpa using this
  rw [this]
  simp
theorem item_changes_other (t : St) (x : Item) (k : ByteArray) (hk : x.key ≠ k) : (t.changes x).item k = t.item k := by
  unfold St.changes St.item
  rw [List.find?_append]
  have h1 : [x].find? (fun y => decide (y.key = k)) = none := by simp [hk]
  have h2 : (t.items.filter fun y => decide (y.key ≠ x.key)).find? (fun y => decide (y.key = k)) = t.items.find? (fun y => decide (y.key = k)) := by
    rw [List.find?_filter]
    congr 1
    funext y
    by_cases hy : y.key = k
    · have : y.key ≠ x.key := fun e => hk (e ▸ hy)
      simp [hy, Ne.symm hk]
    · simp [hy]
  rw [h1, h2]
  simp

def G.wrote (g : G) (r : Was) : G := { g with h := g.h ++ [r] }

/-- The origin's key is written or removed. -/
theorem inv_changes {g : G} {t : St} (h : Inv g t) (k : ByteArray) (p : Int) (x : ByteArray) (ha : t.answers = []) : Inv (g.wrote ⟨k, (t.item k).ver + 1, p, x, g.now⟩) (t.changes ⟨k, (t.item k).ver + 1, p, x⟩) := by
  have hs : Says (PE (g.wrote ⟨k, (t.item k).ver + 1, p, x, g.now⟩)) (PF (g.wrote ⟨k, (t.item k).ver + 1, p, x, g.now⟩)) (PM (g.wrote ⟨k, (t.item k).ver + 1, p, x, g.now⟩)) (PA (g.wrote ⟨k, (t.item k).ver + 1, p, x, g.now⟩)) t := by
    refine ⟨fun n e he => ?_, fun n f hf => h.says.fts n f hf, fun m hm => ?_, fun a ham => by rw [ha] at ham; cases ham⟩
    · obtain ⟨n0, a, b, c, d⟩ := h.says.ents n e he
      refine ⟨n0, a.more _, b, c, fun tm => ?_⟩
      obtain ⟨T, h1, h2, h3⟩ := d tm
      exact ⟨T, h1, h2.more _ (by show T - e.base ≤ g.now; omega), h3⟩
    · obtain ⟨a, b, c, d, e, f, i, j, l⟩ := h.says.net m hm
      refine ⟨a, b, c, d, e, f, fun hk => (i hk).more _, fun hk => ?_, l⟩
      obtain ⟨q, r⟩ := j hk
      refine ⟨q, fun tm => ?_⟩
      obtain ⟨T, h1, h2, h3⟩ := r tm
      exact ⟨T, h1, h2, h3.more _ (by show T - m.age ≤ g.now; omega)⟩
  refine ⟨⟨hs.ents, hs.fts, hs.net, hs.answers⟩, fun k' => ?_, h.serial, h.conf, h.clk, h.size, h.drift, h.room, h.up⟩
  by_cases hk : k = k'
  · subst hk
    rw [item_changes_same t ⟨k, (t.item k).ver + 1, p, x⟩]
    refine ⟨.inr ⟨⟨k, (t.item k).ver + 1, p, x, g.now⟩, List.mem_append_right _ List.mem_cons_self, rfl, rfl, rfl, rfl⟩, fun r hr hrk => ?_⟩
    rcases List.mem_append.1 hr with hr | hr
    · have := (h.items k).2 r hr hrk
      show r.ver ≤ (t.item k).ver + 1
      omega
    · rw [List.mem_singleton.1 hr]; exact Int.le_refl _
  · rw [item_changes_other t ⟨k, (t.item k).ver + 1, p, x⟩ k' hk]
    obtain ⟨a, b⟩ := h.items k'
    refine ⟨a.more _, fun r hr hrk => ?_⟩
    rcases List.mem_append.1 hr with hr | hr
    · exact b r hr hrk
    · rw [List.mem_singleton.1 hr] at hrk; exact absurd hrk hk

/-- A client asks: its id is bound to its key. -/
def G.asked (g : G) (id : Int) (k : ByteArray) : G := { g with kid := fun i => if i = id then k else g.kid i }

/-- Nobody who waits has this id. -/
def NoId (id : Int) (t : St) : Prop := (∀ n f w, f ∈ (t.cac n).fts → w ∈ f.l → w.node < 0 → w.id ≠ id) ∧ ∀ a ∈ t.answers, a.id ≠ id

theorem inv_asked {g : G} {t : St} (h : Inv g t) (id : Int) (k : ByteArray) (hno : NoId id t) : Inv (g.asked id k) t := by
  refine ⟨⟨h.says.ents, fun n f hf => ?_, h.says.net, fun a ha => ?_⟩, h.items, h.serial, h.conf, h.clk, h.size, h.drift, h.room, h.up⟩
  · obtain ⟨n0, a, b, c, d⟩ := h.says.fts n f hf
    refine ⟨n0, a, b, c, fun w hw => ⟨fun hc => ?_, (d w hw).2⟩⟩
    show (if w.id = id then k else g.kid w.id) = f.key
    rw [if_neg (hno.1 n f w hf hw hc)]
    exact (d w hw).1 hc
  · have hne := hno.2 a ha
    have e : (g.asked id k).kid a.id = g.kid a.id := by show (if a.id = id then k else g.kid a.id) = _; rw [if_neg hne]
    rcases h.says.answers a ha with h2 | h1
    · exact .inl h2
    · exact .inr (by rw [e]; exact h1)

/-- Clocks read otherwise; nothing else turns. -/
structure Ticked (t u : St) (ck : Nat → Int) : Prop where
  cac : ∀ n, u.cac n = { t.cac n with clock := ck n }
  size : u.caches.length = t.caches.length
  net : u.net = t.net
  answers : u.answers = t.answers
  items : u.items = t.items
  serial : u.serial = t.serial
  c : u.c = t.c

/-- Time goes on by d, and each clock by no less than the drift lets it. -/
theorem inv_ticks {g : G} {t u : St} (h : Inv g t) (ck : Nat → Int) (hu : Ticked t u ck) (d : Int) (hd : 0 ≤ d) (hck : ∀ n, g.clk n ≤ ck n) (hdr : g.tm → ∀ n, 0 < n → n < g.c.parents.length → (1000000 - g.c.drift) * d ≤ 1000000 * (ck n - g.clk n)) (ha : t.answers = []) :
    Inv { g with now := g.now + d, clk := ck } u := by
  refine ⟨⟨fun n e he => ?_, fun n f hf => ?_, fun m hm => ?_, fun a ham => ?_⟩, fun k => ?_, hu.serial.trans h.serial, hu.c.trans h.conf, fun n => by rw [hu.cac n], hu.size.trans h.size, h.drift, h.room, h.up⟩
  · rw [hu.cac n] at he
    obtain ⟨n0, a, b, c, hT⟩ := h.says.ents n e he
    refine ⟨n0, a, b, Int.le_trans c (hck n), fun tm => ?_⟩
    obtain ⟨T, h1, h2, h3⟩ := hT tm
    have h4 := hdr tm n n0.1 n0.2
    refine ⟨T, by show T ≤ g.now + d; omega, h2, ?_⟩
    show (1000000 - g.c.drift) * (g.now + d - T) ≤ 1000000 * (ck n - e.since)
    have e1 : (1000000 - g.c.drift) * (g.now + d - T) = (1000000 - g.c.drift) * (g.now - T) + (1000000 - g.c.drift) * d := by rw [← Int.mul_add]; congr 1; omega
    have e2 : 1000000 * (ck n - e.since) = 1000000 * (g.clk n - e.since) + 1000000 * (ck n - g.clk n) := by omega
    omega
  · rw [hu.cac n] at hf
    obtain ⟨n0, a, b, c, hw⟩ := h.says.fts n f hf
    refine ⟨n0, a, Int.le_trans b (hck n), fun tm => ?_, fun w hwl => ⟨(hw w hwl).1, fun hc => ?_⟩⟩
    · have h3 := c tm
      have h4 := hdr tm n n0.1 n0.2
      show (1000000 - g.c.drift) * (g.now + d - g.tau f.serial) ≤ 1000000 * (ck n - f.sent)
      have e1 : (1000000 - g.c.drift) * (g.now + d - g.tau f.serial) = (1000000 - g.c.drift) * (g.now - g.tau f.serial) + (1000000 - g.c.drift) * d := by rw [← Int.mul_add]; congr 1; omega
      have e2 : 1000000 * (ck n - f.sent) = 1000000 * (g.clk n - f.sent) + 1000000 * (ck n - g.clk n) := by omega
      omega
    · obtain ⟨p, q, r, s⟩ := (hw w hwl).2 hc
      exact ⟨p, q, r, by show g.tau w.serial ≤ g.now + d; omega⟩
  · rw [hu.net] at hm
    obtain ⟨a, b, c, d', e, f, i, j, l⟩ := h.says.net m hm
    refine ⟨a, by show g.tau m.serial ≤ g.now + d; omega, c, d', e, f, i, fun hk => ?_, l⟩
    obtain ⟨q, r⟩ := j hk
    refine ⟨q, fun tm => ?_⟩
    obtain ⟨T, h1, h2, h3⟩ := r tm
    exact ⟨T, h1, by show T ≤ g.now + d; omega, h3⟩
  · rw [hu.answers, ha] at ham; cases ham
  · have := h.items k
    unfold St.item at *
    rw [hu.items]; exact this

end Go.Proofs.YtpdkojgepagbnaaDoor.Tier

namespace Go.Proofs.YtpdkojgepagbnaaDoor.Tier

def isC (id : Int) (w : Wtr) : Bool := decide (w.node < 0) && decide (w.id = id)
/-- How many clients of this id are among some who wait. -/
def cl (id : Int) (l : List Wtr) : Nat := l.countP (isC id)
def cf (id : Int) (l : List Ftc) : Nat := (l.map fun f => cl id f.l).sum
def cc (id : Int) (l : List Cac) : Nat := (l.map fun c => cf id c.fts).sum
def ca (id : Int) (l : List Ans) : Nat := l.countP fun a => decide (a.id = id)
def cnt (id : Int) (t : St) : Nat := cc id t.caches + ca id t.answers

theorem cl_append (id : Int) (a b : List Wtr) : cl id (a ++ b) = cl id a + cl id b := by simp [cl]
theorem cf_append (id : Int) (a b : List Ftc) : cf id (a ++ b) = cf id a + cf id b := by simp [cf]
theorem ca_append (id : Int) (a b : List Ans) : ca id (a ++ b) = ca id a + ca id b := by simp [ca]

theorem sum_set {α : Type} (f : α → Nat) : ∀ (l : List α) (n : Nat) (h : n < l.length) (a : α), ((l.set n a).map f).sum + f l[n] = (l.map f).sum + f a
  | x :: l, 0, _, a => by simp; omega
  | x :: l, n + 1, h, a => by
    have := sum_set f l n (by simpa using h) a
    simp only [List.set_cons_succ, List.map_cons, List.sum_cons, List.getElem_cons_succ]
    omega

theorem cc_set (id : Int) (t : St) (n : Nat) (c : Cac) (hn : n < t.caches.length) : cc id (t.setCac n c).caches + cf id (t.cac n).fts = cc id t.caches + cf id c.fts := by
  have := sum_set (fun c : Cac => cf id c.fts) t.caches n hn c
  have e : t.cac n = t.caches[n] := by unfold St.cac; rw [List.getD_eq_getElem?_getD, List.getElem?_eq_getElem hn]; rfl
  rw [e]
  exact this

theorem cnt_set_same (id : Int) (t : St) (n : Nat) (c : Cac) (hn : n < t.caches.length) (hc : cf id c.fts = cf id (t.cac n).fts) : cc id (t.setCac n c).caches = cc id t.caches := by
  have := cc_set id t n c hn
  omega

theorem cc_uses (id : Int) (t : St) (n : Nat) (e : Kept) (hn : n < t.caches.length) : cc id (t.uses n e).caches = cc id t.caches := cnt_set_same id t n _ hn rfl

/-- One more under an id. -/
def one (id : Int) (w : Wtr) : Nat := if isC id w then 1 else 0

theorem cl_one (id : Int) (w : Wtr) : cl id [w] = one id w := by simp [cl, one, List.countP_cons]
theorem cl_cons (id : Int) (w : Wtr) (l : List Wtr) : cl id (w :: l) = one id w + cl id l := by simp [cl, one, List.countP_cons]; omega

theorem cnt_refused (id : Int) (t : St) (n : Nat) (k : ByteArray) (w : Wtr) : cnt id (t.refused n k w) = cnt id t + one id w := by
  unfold St.refused cnt
  split
  · next c =>
    have : ca id [(⟨n, w.id, 2, 0, 0, empty, 0⟩ : Ans)] = one id w := by simp [ca, one, isC, c, List.countP_cons]
    show cc id t.caches + ca id (t.answers ++ _) = _
    rw [ca_append, this]; omega
  · next c =>
    have : one id w = 0 := by simp [one, isC, c]
    rw [this]; rfl

theorem cnt_toldBy (id : Int) (t : St) (n : Nat) (e : Kept) (w : Wtr) (hn : n < t.caches.length) : cnt id (t.toldBy n e w) = cnt id t + one id w := by
  have hu := cc_uses id t n e hn
  unfold St.toldBy cnt
  split
  · next c =>
    have : ca id [(⟨n, w.id, 1, e.ver, e.pres, e.val, t.age n e⟩ : Ans)] = one id w := by simp [ca, one, isC, c, List.countP_cons]
    show cc id (t.uses n e).caches + ca id (t.answers ++ _) = _
    rw [ca_append, this, hu]; omega
  · next c =>
    have h0 : one id w = 0 := by simp [one, isC, c]
    rw [h0]
    split
    · show cc id (t.uses n e).caches + ca id t.answers = _; rw [hu]; rfl
    · show cc id (t.uses n e).caches + ca id t.answers = _; rw [hu]; rfl

theorem cnt_sends (id : Int) (t : St) (n : Nat) (k : ByteArray) (tag : Int) (l : List Wtr) (hn : n < t.caches.length) : cnt id (t.sends n k tag l) = cnt id t + cl id l := by
  have e : cf id ((t.cac n).fts ++ [⟨k, t.serial + 1, (t.cac n).clock, l⟩]) = cf id (t.cac n).fts + cl id l := by rw [cf_append]; simp [cf]
  have h : cc id (t.sends n k tag l).caches + cf id (t.cac n).fts = cc id t.caches + (cf id (t.cac n).fts + cl id l) := by rw [← e]; exact cc_set id t n _ hn
  show cc id (t.sends n k tag l).caches + ca id t.answers = cc id t.caches + ca id t.answers + cl id l
  omega

/-- One fetch at most for a key. -/
def Uniq (l : List Ftc) : Prop := l.Pairwise fun a b => a.key ≠ b.key

theorem cf_joins (id : Int) (k : ByteArray) (w : Wtr) : ∀ (l : List Ftc), Uniq l → (∃ f ∈ l, f.key = k) → cf id (l.map fun f => if f.key = k then { f with l := f.l ++ [w] } else f) = cf id l + one id w
  | [], _, h => by obtain ⟨f, hf, _⟩ := h; cases hf
  | a :: l, hu, h => by
    obtain ⟨h1, h2⟩ := List.pairwise_cons.1 hu
    by_cases ha : a.key = k
    · have hno : (l.map fun f => if f.key = k then { f with l := f.l ++ [w] } else f) = l := by
        conv => rhs; rw [← List.map_id l]
        apply List.map_congr_left
        intro f hf
        have : f.key ≠ k := fun e => h1 f hf (ha.trans e.symm)
        simp [this]
      rw [List.map_cons, hno, if_pos ha]
      show (cl id (a.l ++ [w]) :: l.map fun f => cl id f.l).sum = _
      rw [cl_append, cl_one]
      simp [cf]; omega
    · have hex : ∃ f ∈ l, f.key = k := by
        obtain ⟨f, hf, hk⟩ := h
        rcases List.mem_cons.1 hf with rfl | hf
        · exact absurd hk ha
        · exact ⟨f, hf, hk⟩
      have ih := cf_joins id k w l h2 hex
      rw [List.map_cons, if_neg ha]
      show (cl id a.l :: _).sum = (cl id a.l :: _).sum + _
      simp only [List.sum_cons]
      unfold cf at ih
      rw [ih]; omega

theorem cf_over (id : Int) (k : ByteArray) : ∀ (l : List Ftc), Uniq l → ∀ f, l.find? (fun f => decide (f.key = k)) = some f → cf id (l.filter fun f => decide (f.key ≠ k)) + cl id f.l = cf id l
  | [], _, f, h => by cases h
  | a :: l, hu, f, h => by
    obtain ⟨h1, h2⟩ := List.pairwise_cons.1 hu
    by_cases ha : a.key = k
    · rw [List.find?_cons_of_pos (by simpa using ha)] at h
      cases h
      have hno : l.filter (fun f => decide (f.key ≠ k)) = l := by
        rw [List.filter_eq_self]
        intro f hf
        have : f.key ≠ k := fun e => h1 f hf (ha.trans e.symm)
        simpa using this
      rw [List.filter_cons_of_neg (by simpa using ha), hno]
      show _ = (cl id a.l :: _).sum
      simp [cf]; omega
    · rw [List.find?_cons_of_neg (by simpa using ha)] at h
      have ih := cf_over id k l h2 f h
      rw [List.filter_cons_of_pos (by simpa using ha)]
      show (cl id a.l :: _).sum + _ = (cl id a.l :: _).sum
      simp only [List.sum_cons]
      unfold cf at ih
      omega

theorem cnt_joins (id : Int) (t : St) (n : Nat) (k : ByteArray) (w : Wtr) (hn : n < t.caches.length) (hu : Uniq (t.cac n).fts) (hf : (t.fetch n k).isSome = true) : cnt id (t.joins n k w) = cnt id t + one id w := by
  obtain ⟨f, hf⟩ := Option.isSome_iff_exists.1 hf
  obtain ⟨hm, hk⟩ := find_mem hf
  have e := cf_joins id k w (t.cac n).fts hu ⟨f, hm, of_decide_eq_true hk⟩
  have h : cc id (t.joins n k w).caches + cf id (t.cac n).fts = cc id t.caches + (cf id (t.cac n).fts + one id w) := by rw [← e]; exact cc_set id t n _ hn
  show cc id (t.joins n k w).caches + ca id t.answers = cc id t.caches + ca id t.answers + one id w
  omega

theorem cnt_over (id : Int) (t : St) (n : Nat) (k : ByteArray) (f : Ftc) (hn : n < t.caches.length) (hu : Uniq (t.cac n).fts) (hf : t.fetch n k = some f) : cnt id (t.over n k) + cl id f.l = cnt id t := by
  have e := cf_over id k (t.cac n).fts hu f hf
  have h : cc id (t.over n k).caches + cf id (t.cac n).fts = cc id t.caches + cf id ((t.cac n).fts.filter fun f => decide (f.key ≠ k)) := cc_set id t n _ hn
  show cc id (t.over n k).caches + ca id t.answers + cl id f.l = cc id t.caches + ca id t.answers
  omega

theorem len_refused (t : St) (n : Nat) (k : ByteArray) (w : Wtr) : (t.refused n k w).caches = t.caches := by unfold St.refused; split <;> rfl
theorem len_toldBy (t : St) (n : Nat) (e : Kept) (w : Wtr) : (t.toldBy n e w).caches.length = t.caches.length := by rw [(told_parts t n e w).1]; exact length_set t n _

theorem cnt_refuseAll (id : Int) (n : Nat) (k : ByteArray) : ∀ (l : List Wtr) (t : St), cnt id (t.refuseAll n k l) = cnt id t + cl id l
  | [], t => rfl
  | w :: l, t => by
    have h := cnt_refuseAll id n k l (t.refused n k w)
    have h1 : t.refuseAll n k (w :: l) = (t.refused n k w).refuseAll n k l := rfl
    rw [h1, h, cnt_refused, cl_cons]; omega

theorem cnt_tellAll (id : Int) (n : Nat) (e : Kept) : ∀ (l : List Wtr) (t : St), n < t.caches.length → 1 ≤ t.c.entries → t.entry n e.key = some e → cnt id (t.tellAll n e.key l) = cnt id t + cl id l
  | [], _, _, _, _ => rfl
  | w :: l, t, hn, hr, he => by
    have h1 : t.tellAll n e.key (w :: l) = (t.toldBy n e w).tellAll n e.key l := by
      show List.foldl _ _ _ = _
      rw [List.foldl_cons, he]; rfl
    have h := cnt_tellAll id n e l (t.toldBy n e w) (by rw [len_toldBy]; exact hn) (by rw [(told_parts t n e w).2]; exact hr) (entry_told w hn hr)
    rw [h1, h, cnt_toldBy id t n e w hn, cl_cons]; omega

/-- How many wait, in a list of fetches. -/
def wl (l : List Ftc) : Nat := (l.map fun f => f.l.length).sum

/-- What holds of each cache: one fetch and one entry at most for a key, no more entries, no more who wait than may. -/
structure Neat (c : Conf) (x : Cac) : Prop where
  fts : Uniq x.fts
  ents : x.ents.Pairwise fun a b => a.key ≠ b.key
  few : (x.ents.length : Int) ≤ c.entries
  wait : (wl x.fts : Int) ≤ c.waiters

def AllNeat (t : St) : Prop := ∀ n, Neat t.c (t.cac n)

theorem neat_set {t : St} (h : AllNeat t) (n : Nat) (c : Cac) (hc : Neat t.c c) : AllNeat (t.setCac n c) := by
  intro m
  rw [cac_set]
  split
  · exact hc
  · exact h m

theorem neat_of {t u : St} (h : AllNeat t) (hc : u.caches = t.caches) (hk : u.c = t.c) : AllNeat u := by
  intro n
  have : u.cac n = t.cac n := by unfold St.cac; rw [hc]
  rw [this, hk]; exact h n

theorem neat_uses {t : St} (h : AllNeat t) (n : Nat) (e : Kept) (hr : 1 ≤ t.c.entries) : AllNeat (t.uses n e) := by
  refine neat_set h n _ ⟨(h n).fts, ?_, ?_, (h n).wait⟩
  · refine List.Pairwise.sublist (List.take_sublist _ _) (List.pairwise_cons.2 ⟨fun x hx => ?_, (h n).ents.sublist List.filter_sublist⟩)
    have := of_decide_eq_true (List.mem_filter.1 hx).2
    exact fun e' => this e'.symm
  · show ((List.take t.c.entries.toNat (e :: (t.cac n).ents.filter fun x => decide (x.key ≠ e.key))).length : Int) ≤ t.c.entries
    rw [List.length_take]; omega

theorem neat_refused {t : St} (h : AllNeat t) (n : Nat) (k : ByteArray) (w : Wtr) : AllNeat (t.refused n k w) := by
  unfold St.refused; split <;> exact neat_of h rfl rfl
theorem neat_toldBy {t : St} (h : AllNeat t) (n : Nat) (e : Kept) (w : Wtr) (hr : 1 ≤ t.c.entries) : AllNeat (t.toldBy n e w) :=
  neat_of (neat_uses h n e hr) (told_parts t n e w).1 (told_parts t n e w).2

theorem neat_refuseAll (n : Nat) (k : ByteArray) : ∀ (l : List Wtr) {t : St}, AllNeat t → AllNeat (t.refuseAll n k l)
  | [], _, h => h
  | w :: l, _, h => neat_refuseAll n k l (neat_refused h n k w)
theorem neat_tellAll (n : Nat) (k : ByteArray) : ∀ (l : List Wtr) {t : St}, AllNeat t → 1 ≤ t.c.entries → AllNeat (t.tellAll n k l)
  | [], _, h, _ => h
  | w :: l, t, h, hr => by
    have h1 : t.tellAll n k (w :: l) = (match t.entry n k with | some e => t.toldBy n e w | none => t).tellAll n k l := rfl
    rw [h1]
    cases he : t.entry n k with
    | none => exact neat_tellAll n k l h hr
    | some e => exact neat_tellAll n k l (neat_toldBy h n e w hr) (by rw [(told_parts t n e w).2]; exact hr)

theorem wl_over (k : ByteArray) : ∀ (l : List Ftc), Uniq l → ∀ f, l.find? (fun f => decide (f.key = k)) = some f → wl (l.filter fun f => decide (f.key ≠ k)) + f.l.length = wl l
  | [], _, f, h => by cases h
  | a :: l, hu, f, h => by
    obtain ⟨h1, h2⟩ := List.pairwise_cons.1 hu
    by_cases ha : a.key = k
    · rw [List.find?_cons_of_pos (by simpa using ha)] at h
      cases h
      have hno : l.filter (fun f => decide (f.key ≠ k)) = l := by
        rw [List.filter_eq_self]
        intro f hf
        have : f.key ≠ k := fun e => h1 f hf (ha.trans e.symm)
        simpa using this
      rw [List.filter_cons_of_neg (by simpa using ha), hno]
      simp [wl]; omega
    · rw [List.find?_cons_of_neg (by simpa using ha)] at h
      have ih := wl_over k l h2 f h
      rw [List.filter_cons_of_pos (by simpa using ha)]
      simp only [wl, List.map_cons, List.sum_cons] at *
      omega
theorem wl_filter (k : ByteArray) : ∀ (l : List Ftc), wl (l.filter fun f => decide (f.key ≠ k)) ≤ wl l
  | [] => Nat.le_refl _
  | a :: l => by
    have ih := wl_filter k l
    by_cases ha : a.key = k
    · rw [List.filter_cons_of_neg (by simpa using ha)]
      simp only [wl, List.map_cons, List.sum_cons] at *; omega
    · rw [List.filter_cons_of_pos (by simpa using ha)]
      simp only [wl, List.map_cons, List.sum_cons] at *; omega
theorem wl_joins (k : ByteArray) (w : Wtr) : ∀ (l : List Ftc), Uniq l → wl (l.map fun f => if f.key = k then { f with l := f.l ++ [w] } else f) ≤ wl l + 1
  | [], _ => by simp [wl]
  | a :: l, hu => by
    obtain ⟨h1, h2⟩ := List.pairwise_cons.1 hu
    by_cases ha : a.key = k
    · have hno : (l.map fun f => if f.key = k then { f with l := f.l ++ [w] } else f) = l := by
        conv => rhs; rw [← List.map_id l]
        apply List.map_congr_left
        intro f hf
        have : f.key ≠ k := fun e => h1 f hf (ha.trans e.symm)
        simp [this]
      rw [List.map_cons, hno, if_pos ha]
      simp only [wl, List.map_cons, List.sum_cons, List.length_append, List.length_cons, List.length_nil]
      omega
    · have ih := wl_joins k w l h2
      rw [List.map_cons, if_neg ha]
      simp only [wl, List.map_cons, List.sum_cons] at *
      omega
theorem wl_append (a b : List Ftc) : wl (a ++ b) = wl a + wl b := by simp [wl]

theorem uniq_joins (k : ByteArray) (w : Wtr) {l : List Ftc} (h : Uniq l) : Uniq (l.map fun f => if f.key = k then { f with l := f.l ++ [w] } else f) := by
  unfold Uniq at *
  rw [List.pairwise_map]
  refine h.imp fun {a b} hab => ?_
  have ka : (if a.key = k then { a with l := a.l ++ [w] } else a).key = a.key := by split <;> rfl
  have kb : (if b.key = k then { b with l := b.l ++ [w] } else b).key = b.key := by split <;> rfl
  rw [ka, kb]; exact hab

theorem neat_over {t : St} (h : AllNeat t) (n : Nat) (k : ByteArray) : AllNeat (t.over n k) := by
  refine neat_set h n _ ⟨(h n).fts.sublist List.filter_sublist, (h n).ents, (h n).few, ?_⟩
  have h1 := wl_filter k (t.cac n).fts
  have h2 := (h n).wait
  show (wl ((t.cac n).fts.filter fun f => decide (f.key ≠ k)) : Int) ≤ _
  change (wl (t.cac n).fts : Int) ≤ _ at h2
  omega

theorem no_fetch {t : St} {n : Nat} {k : ByteArray} (h : (t.fetch n k).isSome = false) : ∀ f ∈ (t.cac n).fts, f.key ≠ k := by
  intro f hf e
  have : t.fetch n k = none := by simpa using h
  have := List.find?_eq_none.1 this f hf
  simp [e] at this

theorem neat_sends {t : St} (h : AllNeat t) (n : Nat) (k : ByteArray) (tag : Int) (l : List Wtr) (hno : ∀ f ∈ (t.cac n).fts, f.key ≠ k) (hw : (wl (t.cac n).fts : Int) + l.length ≤ t.c.waiters) : AllNeat (t.sends n k tag l) := by
  have hs : AllNeat (t.setCac n { t.cac n with fts := (t.cac n).fts ++ [⟨k, t.serial + 1, (t.cac n).clock, l⟩] }) := by
    refine neat_set h n _ ⟨?_, (h n).ents, (h n).few, ?_⟩
    · refine List.pairwise_append.2 ⟨(h n).fts, List.pairwise_singleton _ _, fun a ha b hb => ?_⟩
      rw [List.mem_singleton.1 hb]; exact hno a ha
    · show (wl ((t.cac n).fts ++ [⟨k, t.serial + 1, (t.cac n).clock, l⟩]) : Int) ≤ t.c.waiters
      rw [wl_append]
      have : wl [(⟨k, t.serial + 1, (t.cac n).clock, l⟩ : Ftc)] = l.length := by simp [wl]
      omega
  exact neat_of hs rfl rfl

theorem neat_joins {t : St} (h : AllNeat t) (n : Nat) (k : ByteArray) (w : Wtr) (hw : (wl (t.cac n).fts : Int) < t.c.waiters) : AllNeat (t.joins n k w) := by
  refine neat_set h n _ ⟨uniq_joins k w (h n).fts, (h n).ents, (h n).few, ?_⟩
  have := wl_joins k w (t.cac n).fts (h n).fts
  show (wl ((t.cac n).fts.map fun f => if f.key = k then { f with l := f.l ++ [w] } else f) : Int) ≤ t.c.waiters
  omega

/-- What wanting does to the counts, and that all stays neat. -/
theorem wants_ok {t : St} (h : AllNeat t) (n : Nat) (hn : n < t.caches.length) (hr : 1 ≤ t.c.entries) (k : ByteArray) (w : Wtr) : AllNeat (t.wants n k w) ∧ ∀ id, cnt id (t.wants n k w) = cnt id t + one id w := by
  have rest : ∀ tag, ¬ t.c.waiters ≤ t.waiting n → (AllNeat (if (t.fetch n k).isSome then t.joins n k w else t.sends n k tag [w]) ∧ ∀ id, cnt id (if (t.fetch n k).isSome then t.joins n k w else t.sends n k tag [w]) = cnt id t + one id w) := by
    intro tag hw
    have hw' : (wl (t.cac n).fts : Int) < t.c.waiters := by
      have : t.waiting n = wl (t.cac n).fts := rfl
      omega
    cases hf : (t.fetch n k).isSome with
    | true => exact ⟨neat_joins h n k w hw', fun id => cnt_joins id t n k w hn (h n).fts hf⟩
    | false => exact ⟨neat_sends h n k tag [w] (no_fetch hf) (by simp; omega), fun id => by rw [if_neg (by simp), cnt_sends id t n k tag [w] hn, cl_one]⟩
  unfold St.wants
  split
  · next e he =>
    split
    · exact ⟨neat_toldBy h n e w hr, fun id => cnt_toldBy id t n e w hn⟩
    · split
      · exact ⟨neat_refused h n k w, fun id => cnt_refused id t n k w⟩
      · next hw => exact rest e.ver hw
  · split
    · exact ⟨neat_refused h n k w, fun id => cnt_refused id t n k w⟩
    · next hw => exact rest (-1) hw

theorem cac_over {t : St} {n : Nat} {k : ByteArray} (hn : n < t.caches.length) : (t.over n k).cac n = { t.cac n with fts := (t.cac n).fts.filter fun f => decide (f.key ≠ k) } := by
  unfold St.over; rw [cac_set, if_pos ⟨rfl, hn⟩]

theorem answered_ok {t : St} (h : AllNeat t) (n : Nat) (hn : n < t.caches.length) (hr : 1 ≤ t.c.entries) (m : Mes) (hbk : ∀ b, (t.better n m b).key = m.key) : AllNeat (t.answered n m) ∧ ∀ id, cnt id (t.answered n m) = cnt id t := by
  unfold St.answered
  split
  · exact ⟨h, fun _ => rfl⟩
  · next f hf =>
    have hno := neat_over h n m.key
    have hlen : n < (t.over n m.key).caches.length := by rw [show (t.over n m.key).caches.length = t.caches.length from length_set t n _]; exact hn
    have hc := fun id => cnt_over id t n m.key f hn (h n).fts hf
    split
    · exact ⟨h, fun _ => rfl⟩
    · split
      · exact ⟨neat_refuseAll n m.key f.l hno, fun id => by rw [cnt_refuseAll]; exact hc id⟩
      · split
        · refine ⟨neat_sends hno n m.key (-1) f.l (fun g hg => ?_) ?_, fun id => by rw [cnt_sends id _ n m.key (-1) f.l hlen]; exact hc id⟩
          · rw [cac_over hn] at hg
            exact of_decide_eq_true (List.mem_filter.1 hg).2
          · rw [cac_over hn]
            have h1 := wl_over m.key (t.cac n).fts (h n).fts f hf
            have h2 := (h n).wait
            change (wl (t.cac n).fts : Int) ≤ _ at h2
            show (wl ((t.cac n).fts.filter fun f => decide (f.key ≠ m.key)) : Int) + f.l.length ≤ t.c.waiters
            omega
        · have hb := hbk (m.age + elapsed t.c.drift ((t.cac n).clock - f.sent))
          generalize t.better n m (m.age + elapsed t.c.drift ((t.cac n).clock - f.sent)) = e at *
          have hu := neat_uses hno n e hr
          have hcu : ∀ id, cnt id ((t.over n m.key).uses n e) = cnt id (t.over n m.key) := fun id => by
            show cc id _ + ca id _ = cc id _ + ca id _
            rw [cc_uses id _ n e hlen]; rfl
          have hlu : n < ((t.over n m.key).uses n e).caches.length := by rw [show ((t.over n m.key).uses n e).caches.length = (t.over n m.key).caches.length from length_set _ n _]; exact hlen
          have heu : ((t.over n m.key).uses n e).entry n e.key = some e := entry_uses hlen hr
          show AllNeat (if ((t.over n m.key).uses n e).age n e ≤ ((t.over n m.key).uses n e).c.budget then _ else _) ∧ ∀ id, cnt id (if ((t.over n m.key).uses n e).age n e ≤ ((t.over n m.key).uses n e).c.budget then _ else _) = _
          split
          · refine ⟨neat_tellAll n m.key f.l hu hr, fun id => ?_⟩
            have h5 := cnt_tellAll id n e f.l ((t.over n m.key).uses n e) hlu hr heu
            rw [hb] at h5
            rw [h5, hcu]; exact hc id
          · exact ⟨neat_refuseAll n m.key f.l hu, fun id => by rw [cnt_refuseAll, hcu]; exact hc id⟩

end Go.Proofs.YtpdkojgepagbnaaDoor.Tier
