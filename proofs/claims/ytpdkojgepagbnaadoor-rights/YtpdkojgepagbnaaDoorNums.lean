/-
  Plain facts on lists and numbers that the proofs of Rights, Wires and Back use: going from parent to parent comes to node 0 within as many steps as there are nodes, or never.
-/
namespace Go.Proofs.YtpdkojgepagbnaaDoor.Nums

def inB (n lo hi : Int) : Bool := decide (lo ≤ n) && decide (n ≤ hi)

/-- The program's going: at most so many steps, from a place that is one. -/
def goes (zs : List Int) : Nat → Nat → Bool
  | 0, _ => false
  | f + 1, k => if k = 0 then true else if inB (zs.getD k 0) 0 ((zs.length : Int) - 1) then goes zs f (zs.getD k 0).toNat else false

/-- The document's going. -/
def comes (zs : List Int) : Nat → Int → Bool
  | 0, _ => false
  | f + 1, i => if i = 0 then true else if i < 0 ∨ (zs.length : Int) ≤ i then false else comes zs f (zs.getD i.toNat 0)

theorem inB_iff {n lo hi : Int} : inB n lo hi = true ↔ lo ≤ n ∧ n ≤ hi := by simp [inB]

theorem goes_comes (zs : List Int) : ∀ (f k : Nat), k < zs.length → goes zs f k = comes zs f (k : Int) := by
  intro f
  induction f with
  | zero => intro k _; rfl
  | succ f ih =>
    intro k hk
    rw [goes, comes]
    by_cases h0 : k = 0
    · simp [h0]
    · rw [if_neg h0, if_neg (show ¬ (k : Int) = 0 by omega), if_neg (show ¬ ((k : Int) < 0 ∨ (zs.length : Int) ≤ (k : Int)) by omega), Int.toNat_natCast]
      by_cases hb : inB (zs.getD k 0) 0 ((zs.length : Int) - 1) = true
      · rw [if_pos hb]
        have h2 := inB_iff.1 hb
        rw [ih _ (by omega), Int.toNat_of_nonneg h2.1]
      · rw [if_neg hb]
        rw [inB_iff] at hb
        cases f with
        | zero => rfl
        | succ f => rw [comes, if_neg (by omega), if_pos (by omega)]

/-- How many places come to 0 within so many steps. -/
def count (p : Nat → Bool) (n : Nat) : Nat := (List.range n).countP p

theorem countP_lt {p q : Nat → Bool} : ∀ (l : List Nat), (∀ x ∈ l, p x = true → q x = true) → (∃ x ∈ l, p x = false ∧ q x = true) → l.countP p < l.countP q := by
  intro l
  induction l with
  | nil => intro _ h; obtain ⟨x, hx, _⟩ := h; cases hx
  | cons a l ih =>
    intro hle hex
    have hle' : l.countP p ≤ l.countP q := List.countP_mono_left (fun x hx h => hle x (List.mem_cons_of_mem _ hx) h)
    rw [List.countP_cons, List.countP_cons]
    by_cases hpa : p a = true
    · have hqa := hle a List.mem_cons_self hpa
      rw [if_pos hpa, if_pos hqa]
      obtain ⟨x, hx, h1, h2⟩ := hex
      rcases List.mem_cons.1 hx with rfl | hx'
      · rw [hpa] at h1; cases h1
      · have := ih (fun y hy h => hle y (List.mem_cons_of_mem _ hy) h) ⟨x, hx', h1, h2⟩
        omega
    · rw [if_neg hpa]
      by_cases hqa : q a = true
      · rw [if_pos hqa]; omega
      · rw [if_neg hqa]
        obtain ⟨x, hx, h1, h2⟩ := hex
        rcases List.mem_cons.1 hx with rfl | hx'
        · exact absurd h2 hqa
        · have := ih (fun y hy h => hle y (List.mem_cons_of_mem _ hy) h) ⟨x, hx', h1, h2⟩
          omega

theorem comes_mono (zs : List Int) : ∀ (f : Nat) (i : Int), comes zs f i = true → comes zs (f + 1) i = true := by
  intro f
  induction f with
  | zero => intro i h; cases h
  | succ f ih =>
    intro i h
    rw [comes] at h ⊢
    by_cases h0 : i = 0
    · simp [h0]
    · rw [if_neg h0] at h ⊢
      by_cases hb : i < 0 ∨ (zs.length : Int) ≤ i
      · rw [if_pos hb] at h; cases h
      · rw [if_neg hb] at h ⊢
        exact ih _ h

/-- Nobody comes in one step more who did not before. -/
def still (zs : List Int) (f : Nat) : Prop := ∀ i, comes zs (f + 1) i = comes zs f i

theorem still_succ (zs : List Int) (f : Nat) (h : still zs f) : still zs (f + 1) := by
  intro i
  rw [comes]
  conv => rhs; rw [comes]
  by_cases h0 : i = 0
  · simp [h0]
  · rw [if_neg h0, if_neg h0]
    by_cases hb : i < 0 ∨ (zs.length : Int) ≤ i
    · rw [if_pos hb, if_pos hb]
    · rw [if_neg hb, if_neg hb, h]

theorem still_or (zs : List Int) (hz : 0 < zs.length) : ∀ f : Nat, 0 < f → still zs f ∨ f + 1 ≤ count (fun k => comes zs (f + 1) (k : Int)) zs.length := by
  intro f
  induction f with
  | zero => intro h; omega
  | succ f ih =>
    intro _
    by_cases hs : still zs (f + 1)
    · exact .inl hs
    right
    have hex : ∃ i, comes zs (f + 1 + 1) i ≠ comes zs (f + 1) i := by
      apply Classical.byContradiction
      intro hn
      exact hs fun i => Classical.byContradiction fun hi => hn ⟨i, hi⟩
    obtain ⟨i, hi⟩ := hex
    have h1 : comes zs (f + 1) i = false := by
      cases hc : comes zs (f + 1) i with
      | false => rfl
      | true => exact absurd ((comes_mono zs _ _ hc).trans hc.symm) hi
    have h2 : comes zs (f + 1 + 1) i = true := by
      cases hc : comes zs (f + 1 + 1) i with
      | true => rfl
      | false => exact absurd (hc.trans h1.symm) hi
    have hin : 0 < i ∧ i < (zs.length : Int) := by
      rw [comes] at h2
      by_cases h0 : i = 0
      · rw [comes, if_pos h0] at h1; cases h1
      · rw [if_neg h0] at h2
        by_cases hb : i < 0 ∨ (zs.length : Int) ≤ i
        · rw [if_pos hb] at h2; cases h2
        · omega
    have hlt : count (fun k => comes zs (f + 1) (k : Int)) zs.length < count (fun k => comes zs (f + 1 + 1) (k : Int)) zs.length := by
      refine countP_lt _ (fun x _ h => comes_mono zs _ _ h) ⟨i.toNat, by rw [List.mem_range]; omega, ?_, ?_⟩
      · show comes zs (f + 1) ((i.toNat : Nat) : Int) = false
        rw [Int.toNat_of_nonneg (by omega)]; exact h1
      · show comes zs (f + 1 + 1) ((i.toNat : Nat) : Int) = true
        rw [Int.toNat_of_nonneg (by omega)]; exact h2
    by_cases hf : 0 < f
    · rcases ih hf with hst | hc
      · exact absurd (still_succ zs f hst) hs
      · omega
    · have hf0 : f = 0 := by omega
      subst hf0
      have h1 : 0 < count (fun k => comes zs (0 + 1) (k : Int)) zs.length := by
        unfold count
        rw [List.countP_pos_iff]
        exact ⟨0, by rw [List.mem_range]; omega, by simp [comes]⟩
      omega

theorem comes_enough (zs : List Int) (hz : 0 < zs.length) (i : Int) : comes zs (zs.length + 1) i = comes zs zs.length i := by
  rcases still_or zs hz zs.length hz with h | h
  · exact h i
  · have h3 : count (fun k => comes zs (zs.length + 1) (k : Int)) zs.length ≤ zs.length := by
      unfold count
      have := List.countP_le_length (p := fun k : Nat => comes zs (zs.length + 1) (k : Int)) (l := List.range zs.length)
      rw [List.length_range] at this
      exact this
    omega

theorem goes_is (zs : List Int) (k : Nat) (hk : k < zs.length) : goes zs zs.length k = comes zs (zs.length + 1) (k : Int) := by
  rw [goes_comes zs _ k hk, comes_enough zs (by omega)]

/-- All from a place on. -/
def allFrom (p : Nat → Bool) (n k : Nat) : Prop := ∀ j, k ≤ j → j < n → p j = true

/-- The document's answer, as a Bool. -/
def rightB (zs : List Int) (dr bu en wa : Int) : Bool :=
  inB (zs.length : Int) 2 6 && decide (zs.getD 0 0 = -1) && (List.range zs.length).all (fun k => goes zs zs.length k) && inB dr 0 500000 && inB bu 1 1000000 && inB en 1 4 && inB wa 1 4

end Go.Proofs.YtpdkojgepagbnaaDoor.Nums
