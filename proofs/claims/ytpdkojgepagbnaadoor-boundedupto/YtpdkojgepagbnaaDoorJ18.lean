/-
  Nobody is answered twice, and nobody is forgotten but by a crash: how many wait or are answered under an id, call by call. And: a cache has one fetch and one entry at most for a key, no more entries and no more who wait than it may.
  What a caller who knows the origin's past finds of an answer: that it was the origin's, from a time on.
  The other calls on a tier as plain data: clocks, timeouts, crashes; who is counted.
-/
import Derived.Test.YtpdkojgepagbnaaDoorJ02
namespace Go.Proofs.YtpdkojgepagbnaaDoor.Tier

def isC (id : Int) (w : Wtr) : Bool := decide (w.node < 0) && decide (w.id = id)
/-- How many clients of this id are among some who wait. -/
def cl (id : Int) (l : List Wtr) : Nat := l.countP (isC id)
def cf (id : Int) (l : List Ftc) : Nat := (l.map fun f => cl id f.l).sum
def cc (id : Int) (l : List Cac) : Nat := (l.map fun c => cf id c.fts).sum
def ca (id : Int) (l : List Ans) : Nat := l.countP fun a => decide (a.id = id)
def cnt (id : Int) (t : St) : Nat := cc id t.caches + ca id t.answers

theorem cl_append (id : Int) (a b : List Wtr) : cl id (a ++ b) = cl id a + cl id b := by simp [cl]
theorem cf_append (id : Int) (a b : List Ftc) : cf id (a ++ b) = cf id a + cf id b := by simp [cf]
theorem ca_append (id : Int) (a b : List Ans) : ca id (a ++ b) = ca id a + ca id b := by simp [ca]

theorem sum_set {α : Type} (f : α → Nat) : ∀ (l : List α) (n : Nat) (h : n < l.length) (a : α), ((l.set n a).map f).sum + f l[n] = (l.map f).sum + f a
  | x :: l, 0, _, a => by simp; omega
  | x :: l, n + 1, h, a => by
    have := sum_set f l n (by simpa using h) a
    simp only [List.set_cons_succ, List.map_cons, List.sum_cons, List.getElem_cons_succ]
    omega

theorem cc_set (id : Int) (t : St) (n : Nat) (c : Cac) (hn : n < t.caches.length) : cc id (t.setCac n c).caches + cf id (t.cac n).fts = cc id t.caches + cf id c.fts := by
  have := sum_set (fun c : Cac => cf id c.fts) t.caches n hn c
  have e : t.cac n = t.caches[n] := by unfold St.cac; rw [List.getD_eq_getElem?_getD, List.getElem?_eq_getElem hn]; rfl
  rw [e]
  exact this

theorem cnt_set_same (id : Int) (t : St) (n : Nat) (c : Cac) (hn : n < t.caches.length) (hc : cf id c.fts = cf id (t.cac n).fts) : cc id (t.setCac n c).caches = cc id t.caches := by
  have := cc_set id t n c hn
  omega

theorem cc_uses (id : Int) (t : St) (n : Nat) (e : Kept) (hn : n < t.caches.length) : cc id (t.uses n e).caches = cc id t.caches := cnt_set_same id t n _ hn rfl

/-- One more under an id. -/
def one (id : Int) (w : Wtr) : Nat := if isC id w then 1 else 0

theorem cl_one (id : Int) (w : Wtr) : cl id [w] = one id w := by simp [cl, one, List.countP_cons]
theorem cl_cons (id : Int) (w : Wtr) (l : List Wtr) : cl id (w :: l) = one id w + cl id l := by simp [cl, one, List.countP_cons]; omega

theorem cnt_refused (id : Int) (t : St) (n : Nat) (k : ByteArray) (w : Wtr) : cnt id (t.refused n k w) = cnt id t + one id w := by
  unfold St.refused cnt
  split
  · next c =>
    have : ca id [(⟨n, w.id, 2, 0, 0, empty, 0⟩ : Ans)] = one id w := by simp [ca, one, isC, c, List.countP_cons]
    show cc id t.caches + ca id (t.answers ++ _) = _
    rw [ca_append, this]; omega
  · next c =>
    have : one id w = 0 := by simp [one, isC, c]
    rw [this]; rfl

theorem cnt_toldBy (id : Int) (t : St) (n : Nat) (e : Kept) (w : Wtr) (hn : n < t.caches.length) : cnt id (t.toldBy n e w) = cnt id t + one id w := by
  have hu := cc_uses id t n e hn
  unfold St.toldBy cnt
  split
  · next c =>
    have : ca id [(⟨n, w.id, 1, e.ver, e.pres, e.val, t.age n e⟩ : Ans)] = one id w := by simp [ca, one, isC, c, List.countP_cons]
    show cc id (t.uses n e).caches + ca id (t.answers ++ _) = _
    rw [ca_append, this, hu]; omega
  · next c =>
    have h0 : one id w = 0 := by simp [one, isC, c]
    rw [h0]
    split
    · show cc id (t.uses n e).caches + ca id t.answers = _; rw [hu]; rfl
    · show cc id (t.uses n e).caches + ca id t.answers = _; rw [hu]; rfl

theorem cnt_sends (id : Int) (t : St) (n : Nat) (k : ByteArray) (tag : Int) (l : List Wtr) (hn : n < t.caches.length) : cnt id (t.sends n k tag l) = cnt id t + cl id l := by
  have e : cf id ((t.cac n).fts ++ [⟨k, t.serial + 1, (t.cac n).clock, l⟩]) = cf id (t.cac n).fts + cl id l := by rw [cf_append]; simp [cf]
  have h : cc id (t.sends n k tag l).caches + cf id (t.cac n).fts = cc id t.caches + (cf id (t.cac n).fts + cl id l) := by rw [← e]; exact cc_set id t n _ hn
  show cc id (t.sends n k tag l).caches + ca id t.answers = cc id t.caches + ca id t.answers + cl id l
  omega

/-- One fetch at most for a key. -/
def Uniq (l : List Ftc) : Prop := l.Pairwise fun a b => a.key ≠ b.key

theorem cf_joins (id : Int) (k : ByteArray) (w : Wtr) : ∀ (l : List Ftc), Uniq l → (∃ f ∈ l, f.key = k) → cf id (l.map fun f => if f.key = k then { f with l := f.l ++ [w] } else f) = cf id l + one id w
  | [], _, h => by obtain ⟨f, hf, _⟩ := h; cases hf
  | a :: l, hu, h => by
    obtain ⟨h1, h2⟩ := List.pairwise_cons.1 hu
    by_cases ha : a.key = k
    · have hno : (l.map fun f => if f.key = k then { f with l := f.l ++ [w] } else f) = l := by
        conv => rhs; rw [← List.map_id l]
        apply List.map_congr_left
        intro f hf
        have : f.key ≠ k := fun e => h1 f hf (ha.trans e.symm)
        simp [this]
      rw [List.map_cons, hno, if_pos ha]
      show (cl id (a.l ++ [w]) :: l.map fun f => cl id f.l).sum = _
      rw [cl_append, cl_one]
      simp [cf]; omega
    · have hex : ∃ f ∈ l, f.key = k := by
        obtain ⟨f, hf, hk⟩ := h
        rcases List.mem_cons.1 hf with rfl | hf
        · exact absurd hk ha
        · exact ⟨f, hf, hk⟩
      have ih := cf_joins id k w l h2 hex
      rw [List.map_cons, if_neg ha]
      show (cl id a.l :: _).sum = (cl id a.l :: _).sum + _
      simp only [List.sum_cons]
      unfold cf at ih
      rw [ih]; omega

theorem cf_over (id : Int) (k : ByteArray) : ∀ (l : List Ftc), Uniq l → ∀ f, l.find? (fun f => decide (f.key = k)) = some f → cf id (l.filter fun f => decide (f.key ≠ k)) + cl id f.l = cf id l
  | [], _, f, h => by cases h
  | a :: l, hu, f, h => by
    obtain ⟨h1, h2⟩ := List.pairwise_cons.1 hu
    by_cases ha : a.key = k
    · rw [List.find?_cons_of_pos (by simpa using ha)] at h
      cases h
      have hno : l.filter (fun f => decide (f.key ≠ k)) = l := by
        rw [List.filter_eq_self]
        intro f hf
        have : f.key ≠ k := fun e => h1 f hf (ha.trans e.symm)
        simpa using this
      rw [List.filter_cons_of_neg (by simpa using ha), hno]
      show _ = (cl id a.l :: _).sum
      simp [cf]; omega
    · rw [List.find?_cons_of_neg (by simpa using ha)] at h
      have ih := cf_over id k l h2 f h
      rw [List.filter_cons_of_pos (by simpa using ha)]
      show (cl id a.l :: _).sum + _ = (cl id a.l :: _).sum
      simp only [List.sum_cons]
      unfold cf at ih
      omega

theorem cnt_joins (id : Int) (t : St) (n : Nat) (k : ByteArray) (w : Wtr) (hn : n < t.caches.length) (hu : Uniq (t.cac n).fts) (hf : (t.fetch n k).isSome = true) : cnt id (t.joins n k w) = cnt id t + one id w := by
  obtain ⟨f, hf⟩ := Option.isSome_iff_exists.1 hf
  obtain ⟨hm, hk⟩ := find_mem hf
  have e := cf_joins id k w (t.cac n).fts hu ⟨f, hm, of_decide_eq_true hk⟩
  have h : cc id (t.joins n k w).caches + cf id (t.cac n).fts = cc id t.caches + (cf id (t.cac n).fts + one id w) := by rw [← e]; exact cc_set id t n _ hn
  show cc id (t.joins n k w).caches + ca id t.answers = cc id t.caches + ca id t.answers + one id w
  omega

theorem cnt_over (id : Int) (t : St) (n : Nat) (k : ByteArray) (f : Ftc) (hn : n < t.caches.length) (hu : Uniq (t.cac n).fts) (hf : t.fetch n k = some f) : cnt id (t.over n k) + cl id f.l = cnt id t := by
  have e := cf_over id k (t.cac n).fts hu f hf
  have h : cc id (t.over n k).caches + cf id (t.cac n).fts = cc id t.caches + cf id ((t.cac n).fts.filter fun f => decide (f.key ≠ k)) := cc_set id t n _ hn
  show cc id (t.over n k).caches + ca id t.answers + cl id f.l = cc id t.caches + ca id t.answers
  omega

theorem len_refused (t : St) (n : Nat) (k : ByteArray) (w : Wtr) : (t.refused n k w).caches = t.caches := by unfold St.refused; split <;> rfl
theorem len_toldBy (t : St) (n : Nat) (e : Kept) (w : Wtr) : (t.toldBy n e w).caches.length = t.caches.length := by rw [(told_parts t n e w).1]; exact length_set t n _

theorem cnt_refuseAll (id : Int) (n : Nat) (k : ByteArray) : ∀ (l : List Wtr) (t : St), cnt id (t.refuseAll n k l) = cnt id t + cl id l
  | [], t => rfl
  | w :: l, t => by
    have h := cnt_refuseAll id n k l (t.refused n k w)
    have h1 : t.refuseAll n k (w :: l) = (t.refused n k w).refuseAll n k l := rfl
    rw [h1, h, cnt_refused, cl_cons]; omega

theorem cnt_tellAll (id : Int) (n : Nat) (e : Kept) : ∀ (l : List Wtr) (t : St), n < t.caches.length → 1 ≤ t.c.entries → t.entry n e.key = some e → cnt id (t.tellAll n e.key l) = cnt id t + cl id l
  | [], _, _, _, _ => rfl
  | w :: l, t, hn, hr, he => by
    have h1 : t.tellAll n e.key (w :: l) = (t.toldBy n e w).tellAll n e.key l := by
      show List.foldl _ _ _ = _
      rw [List.foldl_cons, he]; rfl
    have h := cnt_tellAll id n e l (t.toldBy n e w) (by rw [len_toldBy]; exact hn) (by rw [(told_parts t n e w).2]; exact hr) (entry_told w hn hr)
    rw [h1, h, cnt_toldBy id t n e w hn, cl_cons]; omega

/-- How many wait, in a list of fetches. -/
def wl (l : List Ftc) : Nat := (l.map fun f => f.l.length).sum

/-- What holds of each cache: one fetch and one entry at most for a key, no more entries, no more who wait than may. -/
structure Neat (c : Conf) (x : Cac) : Prop where
  fts : Uniq x.fts
  ents : x.ents.Pairwise fun a b => a.key ≠ b.key
  few : (x.ents.length : Int) ≤ c.entries
  wait : (wl x.fts : Int) ≤ c.waiters

def AllNeat (t : St) : Prop := ∀ n, Neat t.c (t.cac n)

theorem neat_set {t : St} (h : AllNeat t) (n : Nat) (c : Cac) (hc : Neat t.c c) : AllNeat (t.setCac n c) := by
  intro m
  rw [cac_set]
  split
  · exact hc
  · exact h m

theorem neat_of {t u : St} (h : AllNeat t) (hc : u.caches = t.caches) (hk : u.c = t.c) : AllNeat u := by
  intro n
  have : u.cac n = t.cac n := by unfold St.cac; rw [hc]
  rw [this, hk]; exact h n

theorem neat_uses {t : St} (h : AllNeat t) (n : Nat) (e : Kept) (hr : 1 ≤ t.c.entries) : AllNeat (t.uses n e) := by
  refine neat_set h n _ ⟨(h n).fts, ?_, ?_, (h n).wait⟩
  · refine List.Pairwise.sublist (List.take_sublist _ _) (List.pairwise_cons.2 ⟨fun x hx => ?_, (h n).ents.sublist List.filter_sublist⟩)
    have := of_decide_eq_true (List.mem_filter.1 hx).2
    exact fun e' => this e'.symm
  · show ((List.take t.c.entries.toNat (e :: (t.cac n).ents.filter fun x => decide (x.key ≠ e.key))).length : Int) ≤ t.c.entries
    rw [List.length_take]; omega

theorem neat_refused {t : St} (h : AllNeat t) (n : Nat) (k : ByteArray) (w : Wtr) : AllNeat (t.refused n k w) := by
  unfold St.refused; split <;> exact neat_of h rfl rfl
theorem neat_toldBy {t : St} (h : AllNeat t) (n : Nat) (e : Kept) (w : Wtr) (hr : 1 ≤ t.c.entries) : AllNeat (t.toldBy n e w) :=
  neat_of (neat_uses h n e hr) (told_parts t n e w).1 (told_parts t n e w).2

theorem neat_refuseAll (n : Nat) (k : ByteArray) : ∀ (l : List Wtr) {t : St}, AllNeat t → AllNeat (t.refuseAll n k l)
  | [], _, h => h
  | w :: l, _, h => neat_refuseAll n k l (neat_refused h n k w)
theorem neat_tellAll (n : Nat) (k : ByteArray) : ∀ (l : List Wtr) {t : St}, AllNeat t → 1 ≤ t.c.entries → AllNeat (t.tellAll n k l)
  | [], _, h, _ => h
  | w :: l, t, h, hr => by
    have h1 : t.tellAll n k (w :: l) = (match t.entry n k with | some e => t.toldBy n e w | none => t).tellAll n k l := rfl
    rw [h1]
    cases he : t.entry n k with
    | none => exact neat_tellAll n k l h hr
    | some e => exact neat_tellAll n k l (neat_toldBy h n e w hr) (by rw [(told_parts t n e w).2]; exact hr)

theorem wl_over (k : ByteArray) : ∀ (l : List Ftc), Uniq l → ∀ f, l.find? (fun f => decide (f.key = k)) = some f → wl (l.filter fun f => decide (f.key ≠ k)) + f.l.length = wl l
  | [], _, f, h => by cases h
  | a :: l, hu, f, h => by
    obtain ⟨h1, h2⟩ := List.pairwise_cons.1 hu
    by_cases ha : a.key = k
    · rw [List.find?_cons_of_pos (by simpa using ha)] at h
      cases h
      have hno : l.filter (fun f => decide (f.key ≠ k)) = l := by
        rw [List.filter_eq_self]
        intro f hf
        have : f.key ≠ k := fun e => h1 f hf (ha.trans e.symm)
        simpa using this
      rw [List.filter_cons_of_neg (by simpa using ha), hno]
      simp [wl]; omega
    · rw [List.find?_cons_of_neg (by simpa using ha)] at h
      have ih := wl_over k l h2 f h
      rw [List.filter_cons_of_pos (by simpa using ha)]
      simp only [wl, List.map_cons, List.sum_cons] at *
      omega
theorem wl_filter (k : ByteArray) : ∀ (l : List Ftc), wl (l.filter fun f => decide (f.key ≠ k)) ≤ wl l
  | [] => Nat.le_refl _
  | a :: l => by
    have ih := wl_filter k l
    by_cases ha : a.key = k
    · rw [List.filter_cons_of_neg (by simpa using ha)]
      simp only [wl, List.map_cons, List.sum_cons] at *; omega
    · rw [List.filter_cons_of_pos (by simpa using ha)]
      simp only [wl, List.map_cons, List.sum_cons] at *; omega
theorem wl_joins (k : ByteArray) (w : Wtr) : ∀ (l : List Ftc), Uniq l → wl (l.map fun f => if f.key = k then { f with l := f.l ++ [w] } else f) ≤ wl l + 1
  | [], _ => by simp [wl]
  | a :: l, hu => by
    obtain ⟨h1, h2⟩ := List.pairwise_cons.1 hu
    by_cases ha : a.key = k
    · have hno : (l.map fun f => if f.key = k then { f with l := f.l ++ [w] } else f) = l := by
        conv => rhs; rw [← List.map_id l]
        apply List.map_congr_left
        intro f hf
        have : f.key ≠ k := fun e => h1 f hf (ha.trans e.symm)
        simp [this]
      rw [List.map_cons, hno, if_pos ha]
      simp only [wl, List.map_cons, List.sum_cons, List.length_append, List.length_cons, List.length_nil]
      omega
    · have ih := wl_joins k w l h2
      rw [List.map_cons, if_neg ha]
      simp only [wl, List.map_cons, List.sum_cons] at *
      omega
theorem wl_append (a b : List Ftc) : wl (a ++ b) = wl a + wl b := by simp [wl]

theorem uniq_joins (k : ByteArray) (w : Wtr) {l : List Ftc} (h : Uniq l) : Uniq (l.map fun f => if f.key = k then { f with l := f.l ++ [w] } else f) := by
  unfold Uniq at *
  rw [List.pairwise_map]
  refine h.imp fun {a b} hab => ?_
  have ka : (if a.key = k then { a with l := a.l ++ [w] } else a).key = a.key := by split <;> rfl
  have kb : (if b.key = k then { b with l := b.l ++ [w] } else b).key = b.key := by split <;> rfl
  rw [ka, kb]; exact hab

theorem neat_over {t : St} (h : AllNeat t) (n : Nat) (k : ByteArray) : AllNeat (t.over n k) := by
  refine neat_set h n _ ⟨(h n).fts.sublist List.filter_sublist, (h n).ents, (h n).few, ?_⟩
  have h1 := wl_filter k (t.cac n).fts
  have h2 := (h n).wait
  show (wl ((t.cac n).fts.filter fun f => decide (f.key ≠ k)) : Int) ≤ _
  change (wl (t.cac n).fts : Int) ≤ _ at h2
  omega

theorem no_fetch {t : St} {n : Nat} {k : ByteArray} (h : (t.fetch n k).isSome = false) : ∀ f ∈ (t.cac n).fts, f.key ≠ k := by
  intro f hf e
  have : t.fetch n k = none := by simpa using h
  have := List.find?_eq_none.1 this f hf
  simp [e] at this

theorem neat_sends {t : St} (h : AllNeat t) (n : Nat) (k : ByteArray) (tag : Int) (l : List Wtr) (hno : ∀ f ∈ (t.cac n).fts, f.key ≠ k) (hw : (wl (t.cac n).fts : Int) + l.length ≤ t.c.waiters) : AllNeat (t.sends n k tag l) := by
  have hs : AllNeat (t.setCac n { t.cac n with fts := (t.cac n).fts ++ [⟨k, t.serial + 1, (t.cac n).clock, l⟩] }) := by
    refine neat_set h n _ ⟨?_, (h n).ents, (h n).few, ?_⟩
    · refine List.pairwise_append.2 ⟨(h n).fts, List.pairwise_singleton _ _, fun a ha b hb => ?_⟩
      rw [List.mem_singleton.1 hb]; exact hno a ha
    · show (wl ((t.cac n).fts ++ [⟨k, t.serial + 1, (t.cac n).clock, l⟩]) : Int) ≤ t.c.waiters
      rw [wl_append]
      have : wl [(⟨k, t.serial + 1, (t.cac n).clock, l⟩ : Ftc)] = l.length := by simp [wl]
      omega
  exact neat_of hs rfl rfl

theorem neat_joins {t : St} (h : AllNeat t) (n : Nat) (k : ByteArray) (w : Wtr) (hw : (wl (t.cac n).fts : Int) < t.c.waiters) : AllNeat (t.joins n k w) := by
  refine neat_set h n _ ⟨uniq_joins k w (h n).fts, (h n).ents, (h n).few, ?_⟩
  have := wl_joins k w (t.cac n).fts (h n).fts
  show (wl ((t.cac n).fts.map fun f => if f.key = k then { f with l := f.l ++ [w] } else f) : Int) ≤ t.c.waiters
  omega

/-- What wanting does to the counts, and that all stays neat. -/
theorem wants_ok {t : St} (h : AllNeat t) (n : Nat) (hn : n < t.caches.length) (hr : 1 ≤ t.c.entries) (k : ByteArray) (w : Wtr) : AllNeat (t.wants n k w) ∧ ∀ id, cnt id (t.wants n k w) = cnt id t + one id w := by
  have rest : ∀ tag, ¬ t.c.waiters ≤ t.waiting n → (AllNeat (if (t.fetch n k).isSome then t.joins n k w else t.sends n k tag [w]) ∧ ∀ id, cnt id (if (t.fetch n k).isSome then t.joins n k w else t.sends n k tag [w]) = cnt id t + one id w) := by
    intro tag hw
    have hw' : (wl (t.cac n).fts : Int) < t.c.waiters := by
      have : t.waiting n = wl (t.cac n).fts := rfl
      omega
    cases hf : (t.fetch n k).isSome with
    | true => exact ⟨neat_joins h n k w hw', fun id => cnt_joins id t n k w hn (h n).fts hf⟩
    | false => exact ⟨neat_sends h n k tag [w] (no_fetch hf) (by simp; omega), fun id => by rw [if_neg (by simp), cnt_sends id t n k tag [w] hn, cl_one]⟩
  unfold St.wants
  split
  · next e he =>
    split
    · exact ⟨neat_toldBy h n e w hr, fun id => cnt_toldBy id t n e w hn⟩
    · split
      · exact ⟨neat_refused h n k w, fun id => cnt_refused id t n k w⟩
      · next hw => exact rest e.ver hw
  · split
    · exact ⟨neat_refused h n k w, fun id => cnt_refused id t n k w⟩
    · next hw => exact rest (-1) hw

theorem cac_over {t : St} {n : Nat} {k : ByteArray} (hn : n < t.caches.length) : (t.over n k).cac n = { t.cac n with fts := (t.cac n).fts.filter fun f => decide (f.key ≠ k) } := by
  unfold St.over; rw [cac_set, if_pos ⟨rfl, hn⟩]

theorem answered_ok {t : St} (h : AllNeat t) (n : Nat) (hn : n < t.caches.length) (hr : 1 ≤ t.c.entries) (m : Mes) (hbk : ∀ b, (t.better n m b).key = m.key) : AllNeat (t.answered n m) ∧ ∀ id, cnt id (t.answered n m) = cnt id t := by
  unfold St.answered
  split
  · exact ⟨h, fun _ => rfl⟩
  · next f hf =>
    have hno := neat_over h n m.key
    have hlen : n < (t.over n m.key).caches.length := by rw [show (t.over n m.key).caches.length = t.caches.length from length_set t n _]; exact hn
    have hc := fun id => cnt_over id t n m.key f hn (h n).fts hf
    split
    · exact ⟨h, fun _ => rfl⟩
    · split
      · exact ⟨neat_refuseAll n m.key f.l hno, fun id => by rw [cnt_refuseAll]; exact hc id⟩
      · split
        · refine ⟨neat_sends hno n m.key (-1) f.l (fun g hg => ?_) ?_, fun id => by rw [cnt_sends id _ n m.key (-1) f.l hlen]; exact hc id⟩
          · rw [cac_over hn] at hg
            exact of_decide_eq_true (List.mem_filter.1 hg).2
          · rw [cac_over hn]
            have h1 := wl_over m.key (t.cac n).fts (h n).fts f hf
            have h2 := (h n).wait
            change (wl (t.cac n).fts : Int) ≤ _ at h2
            show (wl ((t.cac n).fts.filter fun f => decide (f.key ≠ m.key)) : Int) + f.l.length ≤ t.c.waiters
            omega
        · have hb := hbk (m.age + elapsed t.c.drift ((t.cac n).clock - f.sent))
          generalize t.better n m (m.age + elapsed t.c.drift ((t.cac n).clock - f.sent)) = e at *
          have hu := neat_uses hno n e hr
          have hcu : ∀ id, cnt id ((t.over n m.key).uses n e) = cnt id (t.over n m.key) := fun id => by
            show cc id _ + ca id _ = cc id _ + ca id _
            rw [cc_uses id _ n e hlen]; rfl
          have hlu : n < ((t.over n m.key).uses n e).caches.length := by rw [show ((t.over n m.key).uses n e).caches.length = (t.over n m.key).caches.length from length_set _ n _]; exact hlen
          have heu : ((t.over n m.key).uses n e).entry n e.key = some e := entry_uses hlen hr
          show AllNeat (if ((t.over n m.key).uses n e).age n e ≤ ((t.over n m.key).uses n e).c.budget then _ else _) ∧ ∀ id, cnt id (if ((t.over n m.key).uses n e).age n e ≤ ((t.over n m.key).uses n e).c.budget then _ else _) = _
          split
          · refine ⟨neat_tellAll n m.key f.l hu hr, fun id => ?_⟩
            have h5 := cnt_tellAll id n e f.l ((t.over n m.key).uses n e) hlu hr heu
            rw [hb] at h5
            rw [h5, hcu]; exact hc id
          · exact ⟨neat_refuseAll n m.key f.l hu, fun id => by rw [cnt_refuseAll, hcu]; exact hc id⟩

end Go.Proofs.YtpdkojgepagbnaaDoor.Tier

namespace Go.Proofs.YtpdkojgepagbnaaDoor.Tier

/-- The origin's past, in order: the versions of a key go up, from 1. -/
def HistOK (h : List Was) : Prop := (h.Pairwise fun a b => a.key = b.key → a.ver < b.ver) ∧ ∀ r ∈ h, 1 ≤ r.ver

/-- The least time of a key's changes, and now and 1. -/
def firstOf (key : ByteArray) (now1 : Int) (l : List Was) : Int := l.foldl (fun a r => if r.key = key ∧ r.frm < a then r.frm else a) now1

theorem firstOf_ge (key : ByteArray) (T : Int) : ∀ (l : List Was) (a : Int), T ≤ a → (∀ r ∈ l, r.key = key → T ≤ r.frm) → T ≤ firstOf key a l
  | [], _, h, _ => h
  | r :: l, a, h, hl => by
    show T ≤ firstOf key (if r.key = key ∧ r.frm < a then r.frm else a) l
    refine firstOf_ge key T l _ ?_ (fun x hx => hl x (List.mem_cons_of_mem _ hx))
    split
    · next c => exact hl r List.mem_cons_self c.1
    · exact h

/-- Was this the origin's at some time from a time on? -/
def heldFrom (key : ByteArray) (ver pres : Int) (val : ByteArray) (now1 frm : Int) : List Was → Bool
  | [] => false
  | r :: l => if r.key = key ∧ r.ver = ver then decide (r.pres = pres) && decide (r.val = val) && decide (frm ≤ firstOf key now1 l) else heldFrom key ver pres val now1 frm l
def heldB (h : List Was) (key : ByteArray) (ver pres : Int) (val : ByteArray) (now frm : Int) : Bool :=
  if ver = 0 then decide (pres = 0) && decide (val = empty) && decide (frm ≤ firstOf key (now + 1) h) else heldFrom key ver pres val (now + 1) frm h

theorem heldFrom_ok (key : ByteArray) (ver pres : Int) (val : ByteArray) (now1 frm : Int) (hf : frm ≤ now1) : ∀ (l : List Was), HistOK l → (∃ r ∈ l, r.key = key ∧ r.ver = ver ∧ r.pres = pres ∧ r.val = val) → Late l key ver frm → heldFrom key ver pres val now1 frm l = true
  | [], _, h, _ => by obtain ⟨r, hr, _⟩ := h; cases hr
  | a :: l, ho, h, hl => by
    obtain ⟨h1, h2⟩ := List.pairwise_cons.1 ho.1
    unfold heldFrom
    by_cases ha : a.key = key ∧ a.ver = ver
    · rw [if_pos ha]
      obtain ⟨r, hr, hk, hv, hp, hx⟩ := h
      have hra : r = a := by
        rcases List.mem_cons.1 hr with e | hr
        · exact e
        · have := h1 r hr (ha.1.trans hk.symm)
          omega
      subst hra
      have he : frm ≤ firstOf key now1 l := firstOf_ge key frm l now1 hf fun s hs hsk => hl s (List.mem_cons_of_mem _ hs) hsk (by have := h1 s hs (ha.1.trans hsk.symm); omega)
      simp [hp, hx, he]
    · rw [if_neg ha]
      refine heldFrom_ok key ver pres val now1 frm hf l ⟨h2, fun r hr => ho.2 r (List.mem_cons_of_mem _ hr)⟩ ?_ (fun r hr => hl r (List.mem_cons_of_mem _ hr))
      obtain ⟨r, hr, hk, hv, hp, hx⟩ := h
      rcases List.mem_cons.1 hr with rfl | hr
      · exact absurd ⟨hk, hv⟩ ha
      · exact ⟨r, hr, hk, hv, hp, hx⟩

/-- What is known of an answer is found. -/
theorem held_ok {h : List Was} (ho : HistOK h) {key : ByteArray} {ver pres : Int} {val : ByteArray} {now frm : Int} (hf : frm ≤ now + 1) (hk : Known h key ver pres val) (hl : Late h key ver frm) : heldB h key ver pres val now frm = true := by
  unfold heldB
  by_cases h0 : ver = 0
  · rw [if_pos h0]
    have hpv : pres = 0 ∧ val = empty := by
      rcases hk with ⟨_, hp, hx⟩ | ⟨r, hr, _, hv, _⟩
      · exact ⟨hp, hx⟩
      · have := ho.2 r hr; omega
    have he : frm ≤ firstOf key (now + 1) h := firstOf_ge key frm h (now + 1) hf fun r hr hrk => hl r hr hrk (by have := ho.2 r hr; omega)
    simp [hpv.1, hpv.2, he]
  · rw [if_neg h0]
    refine heldFrom_ok key ver pres val (now + 1) frm hf h ho ?_ hl
    rcases hk with ⟨hz, _⟩ | hr
    · exact absurd hz h0
    · exact hr

theorem item_nonneg {g : G} {t : St} (h : Inv g t) (ho : HistOK g.h) (k : ByteArray) : 0 ≤ (t.item k).ver := by
  rcases (h.items k).1 with ⟨hz, _⟩ | ⟨r, hr, _, hv, _⟩
  · omega
  · have := ho.2 r hr; omega

theorem hist_more {g : G} {t : St} (h : Inv g t) (ho : HistOK g.h) (k : ByteArray) (p : Int) (x : ByteArray) : HistOK (g.h ++ [⟨k, (t.item k).ver + 1, p, x, g.now⟩]) := by
  refine ⟨List.pairwise_append.2 ⟨ho.1, List.pairwise_singleton _ _, fun a ha b hb hk => ?_⟩, fun r hr => ?_⟩
  · rw [List.mem_singleton.1 hb] at hk ⊢
    have := (h.items k).2 a ha hk
    show a.ver < (t.item k).ver + 1
    omega
  · rcases List.mem_append.1 hr with hr | hr
    · exact ho.2 r hr
    · rw [List.mem_singleton.1 hr]
      have := item_nonneg h ho k
      show 1 ≤ (t.item k).ver + 1
      omega

/-- THE BUDGET: of every answer that is told, in time. -/
theorem told_held {g : G} {t : St} (h : Inv g t) (ho : HistOK g.h) (htm : g.tm) (_hb : 1 ≤ g.c.budget) {a : Ans} (ha : a ∈ t.answers) (hk : a.kind = 1) :
    heldB g.h (g.kid a.id) a.ver a.pres a.val g.now (g.now - g.c.budget) = true ∧ 0 ≤ a.age ∧ a.age ≤ g.c.budget := by
  rcases h.says.answers a ha with ⟨h2, _⟩ | ⟨_, hkn, h0, h1, hl⟩
  · omega
  · exact ⟨held_ok ho (by omega) hkn ((hl htm).mono (by omega)), h0, h1⟩

/-- Whatever clocks do: what is told was the origin's at some time. -/
theorem told_known {g : G} {t : St} (h : Inv g t) (ho : HistOK g.h) (hpos : ∀ r ∈ g.h, 0 ≤ r.frm) (hnow : -1 ≤ g.now) {a : Ans} (ha : a ∈ t.answers) (hk : a.kind = 1) :
    heldB g.h (g.kid a.id) a.ver a.pres a.val g.now 0 = true ∧ 0 ≤ a.age ∧ a.age ≤ g.c.budget := by
  rcases h.says.answers a ha with ⟨h2, _⟩ | ⟨_, hkn, h0, h1, _⟩
  · omega
  · exact ⟨held_ok ho (by omega) hkn (fun r hr _ _ => hpos r hr), h0, h1⟩

end Go.Proofs.YtpdkojgepagbnaaDoor.Tier

namespace Go.Proofs.YtpdkojgepagbnaaDoor.Tier

/-- A clock reads so. -/
def St.tick (t : St) (n : Nat) (c : Int) : St := t.setCac n { t.cac n with clock := c }
/-- A cache has nothing any more. -/
def St.crash (t : St) (n : Nat) : St := t.setCac n ⟨(t.cac n).clock, [], []⟩
/-- A fetch ends by a timeout. -/
def St.timeout (t : St) (n : Nat) (k : ByteArray) : St := match t.fetch n k with
  | none => t
  | some f => (t.over n k).refuseAll n k f.l
/-- What it is answered. -/
def St.timeoutE (t : St) (n : Nat) (k : ByteArray) : Int := if (t.fetch n k).isSome then 0 else 8

theorem better_key (t : St) (n : Nat) (m : Mes) (b : Int) : (t.better n m b).key = m.key := by
  unfold St.better
  split
  · next e he =>
    have hk : e.key = m.key := of_decide_eq_true (find_mem he).2
    split
    · rfl
    · split
      · exact hk
      · exact hk
  · rfl

theorem one_child {id : Int} {w : Wtr} (h : ¬ w.node < 0) : one id w = 0 := by
  unfold one isC
  rw [decide_eq_false h]
  rfl

theorem comes_ok {t : St} (h : AllNeat t) (hr : 1 ≤ t.c.entries) (m : Mes) (hto : 0 ≤ m.to ∧ m.to < t.caches.length) (hf : m.kind = 1 → 0 < m.frm) : AllNeat (t.comes m) ∧ ∀ id, cnt id (t.comes m) = cnt id t := by
  unfold St.comes
  split
  · exact answered_ok h _ (by omega) hr m (better_key t _ m)
  · next hk =>
    have hk : m.kind = 1 := Classical.not_not.1 hk
    have h0 := hf hk
    split
    · obtain ⟨a, b⟩ := wants_ok h m.to.toNat (by omega) hr m.key ⟨m.frm, 0, m.serial, m.ver⟩
      refine ⟨a, fun id => ?_⟩
      rw [b id, one_child (by show ¬ m.frm < 0; omega)]; rfl
    · unfold St.atOrigin
      dsimp only
      split
      · exact ⟨neat_of h rfl rfl, fun _ => rfl⟩
      · exact ⟨neat_of h rfl rfl, fun _ => rfl⟩

theorem timeout_ok {t : St} (h : AllNeat t) (n : Nat) (hn : n < t.caches.length) (k : ByteArray) : AllNeat (t.timeout n k) ∧ ∀ id, cnt id (t.timeout n k) = cnt id t := by
  unfold St.timeout
  split
  · exact ⟨h, fun _ => rfl⟩
  · next f hf =>
    refine ⟨neat_refuseAll n k f.l (neat_over h n k), fun id => ?_⟩
    rw [cnt_refuseAll]; exact cnt_over id t n k f hn (h n).fts hf

theorem crash_ok {t : St} (h : AllNeat t) (n : Nat) (hn : n < t.caches.length) (he : 0 ≤ t.c.entries) (hw : 0 ≤ t.c.waiters) : AllNeat (t.crash n) ∧ ∀ id, cnt id (t.crash n) ≤ cnt id t := by
  refine ⟨neat_set h n _ ⟨List.Pairwise.nil, List.Pairwise.nil, by simpa using he, by simpa [wl] using hw⟩, fun id => ?_⟩
  have := cc_set id t n ⟨(t.cac n).clock, [], []⟩ hn
  show cc id (t.setCac n _).caches + ca id t.answers ≤ cc id t.caches + ca id t.answers
  have e : cf id ([] : List Ftc) = 0 := rfl
  dsimp only at this
  omega

theorem cl_pos {id : Int} {l : List Wtr} {w : Wtr} (h : w ∈ l) (hn : w.node < 0) (hi : w.id = id) : 1 ≤ cl id l := by
  unfold cl
  exact List.countP_pos_iff.2 ⟨w, h, by simp [isC, hn, hi]⟩
theorem mem_le_sum {l : List Nat} {x : Nat} (h : x ∈ l) : x ≤ l.sum := by
  induction l with
  | nil => cases h
  | cons y r ih =>
    rw [List.sum_cons]
    rcases List.mem_cons.1 h with e | h
    · omega
    · have := ih h; omega
theorem cf_pos {id : Int} {l : List Ftc} {f : Ftc} (h : f ∈ l) : cl id f.l ≤ cf id l := mem_le_sum (List.mem_map.2 ⟨f, h, rfl⟩)
theorem cc_pos {id : Int} (t : St) (n : Nat) : cf id (t.cac n).fts ≤ cc id t.caches := by
  by_cases hn : n < t.caches.length
  · have e : t.cac n = t.caches[n] := by unfold St.cac; rw [List.getD_eq_getElem?_getD, List.getElem?_eq_getElem hn]; rfl
    rw [e]
    exact mem_le_sum (List.mem_map.2 ⟨_, List.getElem_mem hn, rfl⟩)
  · have e : t.cac n = noCac := by unfold St.cac; rw [List.getD_eq_getElem?_getD, List.getElem?_eq_none (by omega)]; rfl
    rw [e]
    exact Nat.zero_le _

theorem noId_of_cnt {t : St} {id : Int} (h : cnt id t = 0) : NoId id t := by
  have h' : cc id t.caches + ca id t.answers = 0 := h
  refine ⟨fun n f w hf hw hn hi => ?_, fun a ha hi => ?_⟩
  · have h1 := cl_pos hw hn hi
    have h2 := cf_pos (id := id) hf
    have h3 := cc_pos (id := id) t n
    omega
  · have h1 : 1 ≤ ca id t.answers := List.countP_pos_iff.2 ⟨a, ha, by simp [hi]⟩
    omega

theorem inv_timeout {g : G} {t : St} (h : Inv g t) (n : Nat) (k : ByteArray) : Inv g (t.timeout n k) := by
  unfold St.timeout
  split
  · exact h
  · next f hf =>
    obtain ⟨a, b⟩ := fetch_of h hf
    exact inv_refuseAll n k f.l (inv_over h n k) (fun w hw => by have := a.2.2.2.2 w hw; rw [b] at this; exact this)

end Go.Proofs.YtpdkojgepagbnaaDoor.Tier
