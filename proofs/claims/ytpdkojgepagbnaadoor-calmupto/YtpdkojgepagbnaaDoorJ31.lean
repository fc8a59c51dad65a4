/-
  A shop is opened.
-/
import Derived.Test.YtpdkojgepagbnaaDoorJ26
import Derived.Test.YtpdkojgepagbnaaDoorJ29
import Derived.Test.YtpdkojgepagbnaaDoorJ30
namespace Go.Proofs.YtpdkojgepagbnaaDoor
set_option maxRecDepth 100000
open Go.RowKit
open Tier (Mes Ans Conf St Was)
attribute [local go_sem ↓] Go.wp_at_zero Go.wp_at_succ

/-- What a caller knows at first. -/
def sh0 (c : Conf) : Sh := ⟨0, List.replicate c.parents.length 0, [], [], false⟩

set_option maxHeartbeats 8000000 in
theorem opened_of (a : Option Addr) (cap : Nat) (zs : List Int) (dr bu en wa : Int) (n0 : Nat) (w : World) (hK : KeyTab w) (hn : n0 ≤ w.heap.size) (hlow : 1 < n0) (hs : SliceAt w a zs)
    (KF : ∀ w1, SliceAt w1 a zs → Calls Tryd.prog 39 #[.agg #[.slice a zs.length cap, .int .i64 dr, .int .i64 bu, .int .i64 en, .int .i64 wa]] w1 fun r w' => ∃ v, r = .returned (.agg #[v, .int .i64 (confD zs dr bu en wa).drift, .int .i64 (confD zs dr bu en wa).budget, .int .i64 (confD zs dr bu en wa).entries, .int .i64 (confD zs dr bu en wa).waiters]) ∧ Turn nothing w1 w' ∧ w'.ownsRow w1.heap.size 3 1 v (confD zs dr bu en wa).parents.length ((confD zs dr bu en wa).parents.map fun z => .int .i64 z)) :
    Calls Tryd.prog 16 #[.agg #[.slice a zs.length cap, .int .i64 dr, .int .i64 bu, .int .i64 en, .int .i64 wa]] w fun r w' => ∃ bs own', r = .returned (.pointer (some ⟨bs, 0, none⟩)) ∧ Shop n0 own' w' bs 0 (Tier.new (confD zs dr bu en wa)) (sh0 (confD zs dr bu en wa)) ∧ Turn nothing w w' := by
  have hcf := confD_right zs dr bu en wa
  have HCF := hide hcf
  have HOK := hide (confB_parts hcf)
  have KF := hide KF
  have HK := hide hK
  have HSL := hide hs
  generalize confD zs dr bu en wa = c at *
  obtain ⟨P, cd, cb, ce, cw⟩ := c
  dsimp only at *
  have hP6 : P.length ≤ 6 := (unhide HOK).len.2
  have hP2 : 2 ≤ P.length := (unhide HOK).len.1
  have hmk := run_make_row' (P := Tryd.prog) 25 3 (.int .i64 0) 8 Tryd.underlying25 info3 rfl .i64 .i64 P.length (by omega) (by omega)
  rw [made_cells] at hmk
  clear hcf hK hs
  go_enter Tryd.func16, Tryd.ntmps16
  go_wp2_with fail
  generalize hW : World.alloc _ _ = W0
  have T0 : Turn nothing w W0 := by rw [← hW]; exact Turn.alloc _ _ _
  have b0 : ∃ ty, W0.heap[w.heap.size]? = some (.cells #[.slice a zs.length cap, .int .i64 dr, .int .i64 bu, .int .i64 en, .int .i64 wa] ty (0, 0)) := by rw [← hW]; exact ⟨_, new1_0 _ _⟩
  clear hW
  refine (awake_any W0 ((unhide HK).turn T0)).mono ?_
  rintro e w1 ⟨rfl, T1⟩
  obtain ⟨ty, b0⟩ := b0
  have x0 : w1.cell? ⟨w.heap.size, 0, none⟩ = some (.slice a zs.length cap) := T1.cell (cell_of_cells b0 0) id
  have x1 : w1.cell? ⟨w.heap.size, 1, none⟩ = some (.int .i64 dr) := T1.cell (cell_of_cells b0 1) id
  have x2 : w1.cell? ⟨w.heap.size, 2, none⟩ = some (.int .i64 bu) := T1.cell (cell_of_cells b0 2) id
  have x3 : w1.cell? ⟨w.heap.size, 3, none⟩ = some (.int .i64 en) := T1.cell (cell_of_cells b0 3) id
  have x4 : w1.cell? ⟨w.heap.size, 4, none⟩ = some (.int .i64 wa) := T1.cell (cell_of_cells b0 4) id
  have T01 := T0.step_turn T1 (fun _ _ h => h)
  have SL1 : SliceAt w1 a zs := fun hp => by
    obtain ⟨b, off, e, hr⟩ := unhide HSL hp
    exact ⟨b, off, e, fun j hj => T01.cell (hr j hj) id⟩
  have HT01 := hide T01
  go_wp2_with fail
  refine (unhide KF w1 SL1).mono ?_
  rintro e w2 ⟨v, rfl, T2, R2⟩
  obtain ⟨ca, cc, hv⟩ := row_form R2
  subst hv
  have T02 := T01.step_turn T2 (fun _ _ h => h)
  have HT02 := hide T02
  have HR2 := hide R2
  clear T0 b0 T1 T01 T2 T02 R2 KF x0 x1 x2 x3 x4 SL1
  go_upto_region 5 with fail
  generalize hX : World.alloc (World.alloc (World.alloc w2 _) _) _ = X
  have TX : Turn nothing w2 X := by rw [← hX]; exact (Turn.alloc _ _ _).step_alloc.step_alloc
  have hsX : X.heap.size = w2.heap.size + 1 + 1 + 1 := by rw [← hX]; simp
  have y0 : X.heap[w2.heap.size]? = some (.cells #[.slice ca P.length cc, .int .i64 cd, .int .i64 cb, .int .i64 ce, .int .i64 cw] 27 (0, 0)) := by rw [← hX]; exact new3_0 _ _ _ _
  have y1 : X.heap[w2.heap.size + 1]? = some (.cells #[.slice (some ⟨w2.heap.size + 1 + 1, 0, none⟩) P.length P.length, .int .i64 cd, .int .i64 cb, .int .i64 ce, .int .i64 cw] 27 (0, 0)) := by rw [← hX]; exact new3_1 _ _ _ _
  have y2 : X.heap[w2.heap.size + 1 + 1]? = some (.cells (zeros P.length).toArray 3 (0, 0)) := by rw [← hX]; exact new3_2 _ _ _ _
  clear hX
  have RX := owns_turn (unhide HR2) TX (fun _ _ h => h)
  obtain ⟨cg, ccap, hcav⟩ : ∃ cg ccap, Value.slice ca P.length cc = .slice (some ⟨cg, 0, none⟩) P.length ccap := by
    obtain ⟨_, ⟨_, h0⟩ | ⟨g, cap', cur, hv, _⟩⟩ := RX
    · omega
    · exact ⟨g, cap', hv⟩
  cases hcav
  have lcg := (unhide HR2).lt cg rfl
  obtain ⟨Y, hY⟩ : ∃ Y : World, Y = X.setRow (w2.heap.size + 1 + 1) ((P.map fun z => Value.int .i64 z).toArray) := ⟨_, rfl⟩
  have hcp : (Builtin.copy_ #[25, 25] 3 #[.slice (some ⟨w2.heap.size + 1 + 1, 0, none⟩) P.length P.length, .slice (some ⟨cg, 0, none⟩) P.length cc]).run Tryd.prog X = .ok (.int .i64 (P.length : Int)) Y := by
    have hrow := run_copy_row (P := Tryd.prog) X 25 25 3 3 (w2.heap.size + 1 + 1) 0 P.length P.length ⟨cg, 0, none⟩ P.length cc (zeros P.length).toArray 3 (P.map fun z => Value.int .i64 z)
      Tryd.underlying25 size3 y2 (by simp)
      (fun j v hv => by
        have hj : j < P.length := by
          have := (List.getElem?_eq_some_iff.1 hv).1
          simpa using this
        rw [Go.WideShapes.add_plain]
        show X.cell? ⟨cg, 0 + j, none⟩ = _
        rw [Nat.zero_add, RX.cellAt j (by omega)]; exact hv)
      (by simp [zeros]) (one_ints P)
    rw [hrow, hY]
    have e1 : (List.take 0 (zeros P.length).toArray.toList ++ (P.map fun z => Value.int .i64 z) ++ List.drop (0 + (P.map fun z => Value.int .i64 z).length) (zeros P.length).toArray.toList).toArray = (P.map fun z => Value.int .i64 z).toArray := by
      simp [zeros]
    rw [e1]
    simp [goInt]
  have z0 : Y.heap[w2.heap.size]? = some (.cells #[.slice (some ⟨cg, 0, none⟩) P.length cc, .int .i64 cd, .int .i64 cb, .int .i64 ce, .int .i64 cw] 27 (0, 0)) := by rw [hY, setRow_other _ _ _ _ (by omega)]; exact y0
  have z1 : Y.heap[w2.heap.size + 1]? = some (.cells #[.slice (some ⟨w2.heap.size + 1 + 1, 0, none⟩) P.length P.length, .int .i64 cd, .int .i64 cb, .int .i64 ce, .int .i64 cw] 27 (0, 0)) := by rw [hY, setRow_other _ _ _ _ (by omega)]; exact y1
  have z2 : Y.heap[w2.heap.size + 1 + 1]? = some (.cells (P.map fun z => Value.int .i64 z).toArray 3 (0, 0)) := by rw [hY]; exact setRow_heap _ _ _ _ _ _ y2
  have TY : Turn nothing w2 Y := ⟨by rw [hY]; exact TX.os, by rw [hY]; exact TX.tape, by rw [hY]; exact TX.output, by rw [hY]; simpa using TX.size, fun k hk _ => by rw [hY, setRow_other _ _ _ _ (by omega)]; exact TX.block k hk id⟩
  have RY : Y.ownsRow 0 3 1 (.slice (some ⟨w2.heap.size + 1 + 1, 0, none⟩) P.length P.length) P.length (P.map fun z => .int .i64 z) := ⟨by simp, Or.inr ⟨_, P.length, _, rfl, Nat.zero_le _, z2, Nat.le_refl _, by unfold maxLen; omega, by simp, by simp; exact List.take_of_length_le (by simp)⟩⟩
  have u0 : X.cell? ⟨w2.heap.size, 0, none⟩ = some (.slice (some ⟨cg, 0, none⟩) P.length cc) := cell_of_cells y0 0
  have u1 : X.cell? ⟨w2.heap.size + 1, 0, none⟩ = some (.slice (some ⟨w2.heap.size + 1 + 1, 0, none⟩) P.length P.length) := cell_of_cells y1 0
  have s0 : Y.cell? ⟨w2.heap.size + 1, 0, none⟩ = some (.slice (some ⟨w2.heap.size + 1 + 1, 0, none⟩) P.length P.length) := cell_of_cells z1 0
  have s1 : Y.cell? ⟨w2.heap.size + 1, 1, none⟩ = some (.int .i64 cd) := cell_of_cells z1 1
  have s2 : Y.cell? ⟨w2.heap.size + 1, 2, none⟩ = some (.int .i64 cb) := cell_of_cells z1 2
  have s3 : Y.cell? ⟨w2.heap.size + 1, 3, none⟩ = some (.int .i64 ce) := cell_of_cells z1 3
  have s4 : Y.cell? ⟨w2.heap.size + 1, 4, none⟩ = some (.int .i64 cw) := cell_of_cells z1 4
  have HRY := hide RY
  have HTY := hide TY
  have HZ0 := hide z0
  have hsY : Y.heap.size = w2.heap.size + 1 + 1 + 1 := by rw [hY]; simpa using hsX
  clear RX RY TX TY z0 z1 z2 y0 y1 y2 hY hsX
  have HSY := hide hsY
  clear hsY
  go_wp2_with fail
  refine (New_ok (fun _ => none) 0 _ P cd cb ce cw Y (unhide HRY) (unhide HCF) (fun _ _ => rfl)).mono ?_
  rintro e w3 ⟨bt, own1, rfl, T3, hb3, A3, k3, m3⟩
  have z03 := (T3.block _ (heap_lt (unhide HZ0)) id).trans (unhide HZ0)
  have t0 : w3.cell? ⟨w2.heap.size, 0, none⟩ = some (.slice (some ⟨cg, 0, none⟩) P.length cc) := cell_of_cells z03 0
  have t1 : w3.cell? ⟨w2.heap.size, 1, none⟩ = some (.int .i64 cd) := cell_of_cells z03 1
  have t2 : w3.cell? ⟨w2.heap.size, 2, none⟩ = some (.int .i64 cb) := cell_of_cells z03 2
  have t3 : w3.cell? ⟨w2.heap.size, 3, none⟩ = some (.int .i64 ce) := cell_of_cells z03 3
  have t4 : w3.cell? ⟨w2.heap.size, 4, none⟩ = some (.int .i64 cw) := cell_of_cells z03 4
  have hw23 : w2.heap.size < w3.heap.size := cell_lt t0
  have HE : Hid (Turn nothing w2 w3 ∧ Y.heap.size ≤ bt ∧ TierAt own1 0 w3 bt 0 (Tier.new ⟨P, cd, cb, ce, cw⟩) ∧ (∀ k, k < Y.heap.size → own1 k = none) ∧ w3.ownsRow w1.heap.size 3 1 (.slice (some ⟨cg, 0, none⟩) P.length cc) P.length (P.map fun z => .int .i64 z)) :=
    ⟨(unhide HTY).step_turn T3 (fun _ _ h => h), hb3, A3, k3, owns_turn (owns_turn (unhide HR2) (unhide HTY) (fun _ _ h => h)) T3 (fun _ _ h => h)⟩
  clear T3 hb3 A3 k3 m3 z03 s0 s1 s2 s3 s4 u0 u1 hcp
  go_wp2
  go_region
  go_wp2
  go_ret
  generalize hF : World.drew _ = F
  have TF : Turn nothing w3 F := by rw [← hF]; exact (Turn.alloc _ _ _).step_alloc.step_drew
  have gcb : F.heap[w3.heap.size]? = some (.cells (zeros P.length).toArray 3 (0, 0)) := by rw [← hF]; exact new2_0 _ _ _
  have bsb : F.heap[w3.heap.size + 1]? = some (.cells #[.pointer (some ⟨bt, 0, none⟩), .slice (some ⟨cg, 0, none⟩) P.length cc, .int .i64 cd, .int .i64 cb, .int .i64 ce, .int .i64 cw, .int .i64 0, .slice (some ⟨w3.heap.size, 0, none⟩) P.length P.length, .slice none 0 0, .int .i64 0, .slice none 0 0, .bool false] 52 (0, 0)) := by rw [← hF]; exact new2_1 _ _ _
  have hsF : F.heap.size = w3.heap.size + 1 + 1 := by rw [← hF]; show ((w3.alloc _).alloc _).heap.size = _; simp
  clear hF
  obtain ⟨T23, hbt, A3, k3, R3⟩ := unhide HE
  have hsY := unhide HSY
  have z01 := (unhide HT01).size
  have z02 := (unhide HT02).size
  have zY3 : Y.heap.size ≤ w3.heap.size := by
    obtain ⟨g, st, L, _⟩ := A3.is
    have := L.tier.lt
    omega
  have TW := (unhide HT02).step_turn (T23.step_turn TF (fun _ _ h => h)) (fun _ _ h => h)
  have e : ∀ k, putO (putO (putO own1 w3.heap.size (1, 3)) (w3.heap.size + 1) (1, 1)) cg (1, 2) k = if k = cg then some (1, 2) else if k = w3.heap.size + 1 then some (1, 1) else if k = w3.heap.size then some (1, 3) else own1 k := fun k => rfl
  have n1 : w3.heap.size + 1 ≠ cg := by omega
  have n2 : w3.heap.size ≠ cg := by omega
  have topF : ∀ k, F.heap.size ≤ k → putO (putO (putO own1 w3.heap.size (1, 3)) (w3.heap.size + 1) (1, 1)) cg (1, 2) k = none := fun k hk => by
    rw [e, if_neg (by omega), if_neg (by omega), if_neg (by omega)]
    exact A3.top k (by omega)
  have nilRow : ∀ x el size, Row (putO (putO (putO own1 w3.heap.size (1, 3)) (w3.heap.size + 1) (1, 1)) cg (1, 2)) 1 x F el size (.slice none 0 0) [] := fun x el size => ⟨World.ownsRow_nil _ _ _ _, fun k hk => by cases hk⟩
  refine ⟨w3.heap.size + 1, putO (putO (putO own1 w3.heap.size (1, 3)) (w3.heap.size + 1) (1, 1)) cg (1, 2), rfl, ⟨⟨⟨bt, .slice (some ⟨cg, 0, none⟩) P.length cc, .slice (some ⟨w3.heap.size, 0, none⟩) P.length P.length, .slice none 0 0, .slice none 0 0⟩, A3.frame (fun k hk ⟨x, hx⟩ => ⟨TF.block k hk id, ?_⟩) topF, ⟨bsb, ?_, ⟨?_, fun k hk => ?_⟩, ⟨?_, fun k hk => ?_⟩, nilRow _ _ _, nilRow _ _ _⟩⟩, fun k hk => ?_, (unhide HK).turn TW, hlow⟩, TW⟩
  · have hkc : k ≠ cg := fun e' => by rw [e', k3 cg (by omega)] at hx; cases hx
    rw [e, if_neg hkc, if_neg (by omega), if_neg (by omega)]
  · rw [e, if_neg n1, if_pos rfl]
  · have hq := owns_base (owns_turn R3 TF (fun _ _ h => h)) (Nat.zero_le _)
    have e2 : (P.map intL).flatten = P.map fun z => Value.int .i64 z := by
      generalize P = zs
      induction zs with
      | nil => rfl
      | cons z r ih => simp [intL, ih]
    show F.ownsRow 0 3 1 _ (P.map intL).length (P.map intL).flatten
    rw [e2, List.length_map]
    exact hq
  · cases hk
    rw [e, if_pos rfl]
  · show F.ownsRow 0 3 1 _ ((List.replicate P.length (0 : Int)).map intL).length ((List.replicate P.length (0 : Int)).map intL).flatten
    have e2 : ((List.replicate P.length (0 : Int)).map intL).flatten = zeros P.length := by
      unfold zeros
      generalize P.length = m
      induction m with
      | zero => rfl
      | succ m ih => rw [List.replicate_succ, List.map_cons, List.flatten_cons, ih]; rfl
    rw [e2, List.length_map, List.length_replicate]
    exact ⟨by simp [zeros], Or.inr ⟨_, P.length, _, rfl, Nat.zero_le _, gcb, Nat.le_refl _, by unfold maxLen; omega, by simp [zeros], by simp [zeros]⟩⟩
  · cases hk
    show putO (putO (putO own1 w3.heap.size (1, 3)) (w3.heap.size + 1) (1, 1)) cg (1, 2) w3.heap.size = _
    rw [e, if_neg n2, if_neg (by omega), if_pos rfl]
  · rw [e] at hk
    split at hk
    · omega
    · split at hk
      · omega
      · split at hk
        · omega
        · refine Classical.byContradiction fun hlt => hk (k3 k (by omega))

end Go.Proofs.YtpdkojgepagbnaaDoor
