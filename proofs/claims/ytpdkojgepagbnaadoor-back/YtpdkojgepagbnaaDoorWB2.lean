/-
  The statement Back, as a call: it answers true at every message, all bytes and every number, and turns nothing that was there.
-/
import Derived.Test.YtpdkojgepagbnaaDoorWB1
import Derived.Deep.RegionHeld3
import Derived.Deep.CutRange
namespace Go.Proofs.YtpdkojgepagbnaaDoor
set_option maxRecDepth 100000
open Go.RowKit

theorem maxLen_small {n : Nat} (h : n ≤ 1000) : n ≤ maxLen := by unfold maxLen; omega

def I64 (c : Int) : Prop := -9223372036854775808 ≤ c ∧ c ≤ 9223372036854775807

theorem pick_named (c n : Int) (hc : I64 c) (hn : 0 < n ∧ n ≤ 1000) : ∃ p : Int, (0 ≤ p ∧ p < n) ∧ ∀ w, Calls Tryd.prog 13 #[.int .i64 c, .int .i64 n] w fun e w' => e = .returned (.int .i64 p) ∧ w' = w :=
  ⟨_, pickN_ok c hn.1, fun w => pick_any c n w hc (by omega)⟩

theorem own_sound {p1 p2 p4 p5 p6 : Int} (l1 : 0 ≤ p1 ∧ p1 < 255) (l2 : 0 ≤ p2 ∧ p2 < 256) (l4 : 0 ≤ p4 ∧ p4 < 1000) (l5 : 0 ≤ p5 ∧ p5 < 1000) (l6 : 0 ≤ p6 ∧ p6 < 1000) : soundB ⟨2, 1 + p1, p2, ⟨#[107]⟩, p4, p5, p6, 1, ⟨#[118]⟩⟩ = true := by
  have hk : keyB ⟨#[107]⟩ = true := by decide
  have hv : valB ⟨#[118]⟩ = true := by decide
  rw [soundB]
  simp only [hk, hv, Bool.and_eq_true, Nums.inB_iff, loV, hiV, hiA, hiP]
  simp
  omega

set_option maxHeartbeats 4000000 in
set_option maxRecDepth 100000 in
theorem back_first (m : Msg) (s : ByteArray) (cut : Int) (w : World) (hkey : m.key.size ≤ maxLen) (hm : s.size ≤ maxLen) (hcut : -9223372036854775808 ≤ cut ∧ cut ≤ 9223372036854775807) (HR : Hid (I64 m.frm ∧ I64 m.to ∧ I64 m.serial ∧ I64 m.version ∧ I64 m.age)) (hT : KindTab w) (hK : KeyTab w) :
    Calls Tryd.prog 4 #[.agg #[.int .i64 m.kind, .int .i64 m.frm, .int .i64 m.to, .string m.key, .int .i64 m.serial, .int .i64 m.version, .int .i64 m.age, .int .i64 m.present, .string m.value], .string s, .int .i64 cut] w fun e w' => e = .returned (.bool true) ∧ Below w.heap.size w w' := by
  have HCUT := hide hcut
  clear hcut
  go_enter Tryd.func4, Tryd.ntmps4
  go_wp2_with fail
  refine (pack_any m _ hkey (hT.later (below_alloc1' w _)) (hK.later (below_alloc1' w _))).mono ?_
  rintro e w1 ⟨rfl, hb1⟩
  have M1 : MsgAt w1 w.heap.size m := (msgAt_new w m _).later hb1 (by simp)
  have hb1' := (below_alloc1' w _).trans (hb1.mono (by simp))
  have hz1 : w.heap.size < w1.heap.size := by have := hb1.size; simp at this; omega
  have hT1 := hT.later hb1'
  have hK1 := hK.later hb1'
  have HT0 := hide hT
  have HK0 := hide hK
  clear hb1 hT hK
  have HM := hide M1
  clear M1
  go_upto_if 29 with fail
  go_cut [] from 7 to 66 (fun wx => Below (w.heap.size + 1) w1 wx)
  case first =>
    cases hS : soundB m with
    | false =>
      have hps : packS m = ⟨#[]⟩ := by rw [packS, hS]; rfl
      have hpe : packE m = 9 := by rw [packE, hS]; rfl
      rw [hps, hpe]
      clear hps hpe hS
      go_wp2_with fail
      go_meet
      exact Below.refl _ _
    | true =>
      obtain ⟨a, ha⟩ : ∃ a : ByteArray, a = ⟨(packL m).toArray⟩ := ⟨_, rfl⟩
      have hps : packS m = a := by rw [ha, packS, hS]; rfl
      have hpe : packE m = 0 := by rw [packE, hS]; rfl
      rw [hps, hpe]
      have hal : a.data.toList = packL m := by rw [ha]
      have hsz : a.size = 20 + m.key.size + m.value.size := by rw [← size_list, hal, length_packL]
      obtain ⟨_, _, _, _, _, _, _, _, _, _, _, _, _, _, hk4, hv16⟩ := sound_parts hS
      have hsz40 : a.size ≤ 40 := by omega
      have HA : Hid (Answers a m 0) := by rw [ha]; exact answers_pack m hS
      obtain ⟨k, hk⟩ : ∃ k : Nat, pickN cut ((a.size : Int) + 1) = (k : Int) := by
        have := pickN_ok cut (n := (a.size : Int) + 1) (by omega)
        exact ⟨_, (Int.toNat_of_nonneg this.1).symm⟩
      have hkl : k ≤ a.size := by
        have := pickN_ok cut (n := (a.size : Int) + 1) (by omega)
        omega
      have HNP : Hid (k < a.size → Answers (a.extract 0 k) noMsg 9) := by
        intro hlt
        refine .inr ⟨no_prefix m hS _ k ?_ ?_, rfl, rfl⟩
        · rw [← hal, size_list]; exact hlt
        · rw [Lib.extract_data, hal]; rfl
      have HK := hide hk
      clear hps hpe hS ha hal hsz hk hk4 hv16
      go_wp2_with fail
      refine (unpack_any a m 0 (unhide HA) _ (maxLen_small (by omega)) hT1 hK1).mono ?_
      rintro e w2 ⟨rfl, hb2⟩
      have hz2 : w.heap.size < w2.heap.size := Nat.lt_of_lt_of_le hz1 hb2.size
      have B2 : Below (w.heap.size + 1) w1 w2 := hb2.mono (by omega)
      have hT2 := hT1.later hb2
      have hK2 := hK1.later hb2
      clear hb2 hT1 hK1
      obtain ⟨c0, c1, c2, c3, c4, c5, c6, c7, c8⟩ := (unhide HM).later B2 (by omega)
      simp only [Msg.cells]
      go_wp2_with fail
      refine (pick_any cut ((a.size : Int) + 1) _ (unhide HCUT) (by omega)).mono ?_
      rintro e w3 ⟨rfl, rfl⟩
      rw [unhide HK]
      by_cases hlt : k < a.size
      · have hlt' : (k : Int) < (a.size : Int) := by omega
        have hT3 : KindTab (w2.alloc (.cells m.cells 23)) := hT2.later (below_alloc1' _ _)
        have hK3 : KeyTab (w2.alloc (.cells m.cells 23)) := hK2.later (below_alloc1' _ _)
        go_wp2_with fail
        refine (unpack_any (a.extract 0 k) noMsg 9 (unhide HNP hlt) _ (maxLen_small (by rw [ByteArray.size_extract]; omega)) hT3 hK3).mono ?_
        rintro e w4 ⟨rfl, hb4⟩
        have B4 : Below (w.heap.size + 1) w1 w4 := (B2.alloc (by omega) _).trans (hb4.mono (by simp; omega))
        have hz4 : w.heap.size + 1 ≤ w4.heap.size := by have := hb4.size; simp at this; omega
        clear hb4 hT3 hK3 hT2 hK2 c0 c1 c2 c3 c4 c5 c6 c7 c8 HNP HA HK
        simp only [Msg.cells, noMsg]
        go_wp2_with fail
        go_meet
        exact B4.alloc hz4 _
      · have hlt' : ¬ (k : Int) < (a.size : Int) := by omega
        go_wp2_with fail
        go_meet
        exact B2.alloc (by omega) _
  case rest =>
    have hbw : Below w.heap.size w wc := hb1'.trans (hcut.mono (by omega))
    have hzc : w.heap.size < wc.heap.size := Nat.lt_of_lt_of_le hz1 hcut.size
    have HM2 : Hid (MsgAt wc w.heap.size m) := (unhide HM).later hcut (by omega)
    have hTc := (unhide HT0).later hbw
    have hKc := (unhide HK0).later hbw
    obtain ⟨mr, er, hA⟩ := answers_ex s
    have HA := hide hA
    have HOK := hide (answers_ok hA)
    clear hA hcut hT1 hK1 HM hb1' hz1 HCUT
    go_wp2_with fail
    refine (unpack_any s mr er (unhide HA) _ hm hTc hKc).mono ?_
    rintro e w2 ⟨rfl, hb2⟩
    have hbw2 : Below w.heap.size w w2 := hbw.trans (hb2.mono hbw.size)
    have HM3 : Hid (MsgAt w2 w.heap.size m) := (unhide HM2).later hb2 hzc
    have hz2 : w.heap.size < w2.heap.size := Nat.lt_of_lt_of_le hzc hb2.size
    clear hb2 hTc hKc hbw HM2 hzc
    simp only [Msg.cells]
    go_upto_if 73 with fail
    go_cut [] from 9 to 85 (fun wx => Below (w.heap.size + 1) w2 wx ∧ w.heap.size < wx.heap.size)
    case first =>
      rcases unhide HOK with ⟨rfl, hS, hP⟩ | rfl
      · have hps : packS mr = s := by rw [packS, hS]; exact bytes_ext hP
        have hpe : packE mr = 0 := by rw [packE, hS]; rfl
        obtain ⟨_, _, _, _, _, _, _, _, _, _, _, _, _, _, hk4, _⟩ := sound_parts hS
        have hTb : ∀ o, KindTab (w2.alloc o) := fun o => ((unhide HT0).later hbw2).later (below_alloc1' _ _)
        have hKb : ∀ o, KeyTab (w2.alloc o) := fun o => ((unhide HK0).later hbw2).later (below_alloc1' _ _)
        clear hS hP HOK HA
        go_wp2_with fail
        refine (pack_any mr _ (maxLen_small (by omega)) (hTb _) (hKb _)).mono ?_
        rintro e w3 ⟨rfl, hb3⟩
        rw [hps, hpe]
        have B3 : Below (w.heap.size + 1) w2 w3 := ((Below.refl _ _).alloc (by omega) _).trans (hb3.mono (by simp; omega))
        have hz3 : w.heap.size < w3.heap.size := by have := hb3.size; simp at this; omega
        clear hb3 hTb hKb hps hpe
        go_wp2_with fail
        go_meet
        exact ⟨B3, hz3⟩
      · go_wp2_with fail
        go_meet
        exact ⟨(Below.refl _ _).alloc (by omega) _, by simp; omega⟩
    case rest =>
      rename World => V
      obtain ⟨hc2, hz3⟩ := hcut
      have hbw3 : Below w.heap.size w V := hbw2.trans (hc2.mono (by omega))
      obtain ⟨c0, c1, c2, c3, c4, c5, c6, c7, c8⟩ := (unhide HM3).later hc2 (by omega)
      clear c0 c3 c7 c8 hc2 HM3 hbw2 hz2 HOK HA
      obtain ⟨p1, l1, P1⟩ := pick_named m.frm 255 (unhide HR).1 (by omega)
      obtain ⟨p2, l2, P2⟩ := pick_named m.to 256 (unhide HR).2.1 (by omega)
      obtain ⟨p4, l4, P4⟩ := pick_named m.serial 1000 (unhide HR).2.2.1 (by omega)
      obtain ⟨p5, l5, P5⟩ := pick_named m.version 1000 (unhide HR).2.2.2.1 (by omega)
      obtain ⟨p6, l6, P6⟩ := pick_named m.age 1000 (unhide HR).2.2.2.2 (by omega)
      have K1 := hide P1
      have K2 := hide P2
      have K4 := hide P4
      have K5 := hide P5
      have K6 := hide P6
      clear P1 P2 P4 P5 P6 HR
      have hw1 : IntKind.i64.wrap (1 + p1) = 1 + p1 := by rw [IntKind.wrap_i64]; omega
      go_wp2_with fail
      go_cut [18] from 86 to 102 (fun q wx => q = .pointer (some ⟨V.heap.size, 0, none⟩) ∧ wx.heap[V.heap.size]? = some (.cells #[.int .i64 2, .int .i64 (1 + p1), .int .i64 p2, .string ⟨#[107]⟩, .int .i64 p4, .int .i64 p5, .int .i64 p6, .int .i64 1, .string ⟨#[118]⟩] 23 (0, 0)) ∧ Below V.heap.size V wx)
      case first =>
        go_region_held3 (fun w' => w'.cell? ⟨w.heap.size, 1, none⟩ = some (.int .i64 m.frm) ∧ w'.cell? ⟨w.heap.size, 2, none⟩ = some (.int .i64 m.to) ∧ w'.cell? ⟨w.heap.size, 4, none⟩ = some (.int .i64 m.serial) ∧ w'.cell? ⟨w.heap.size, 5, none⟩ = some (.int .i64 m.version) ∧ w'.cell? ⟨w.heap.size, 6, none⟩ = some (.int .i64 m.age)) (go_keep)
          (first
            | (go_at_call_of 13 (Value.int .i64 m.frm); refine (unhide K1 _).mono ?_; rintro e w' ⟨rfl, rfl⟩)
            | (go_at_call_of 13 (Value.int .i64 m.to); refine (unhide K2 _).mono ?_; rintro e w' ⟨rfl, rfl⟩)
            | (go_at_call_of 13 (Value.int .i64 m.serial); refine (unhide K4 _).mono ?_; rintro e w' ⟨rfl, rfl⟩)
            | (go_at_call_of 13 (Value.int .i64 m.version); refine (unhide K5 _).mono ?_; rintro e w' ⟨rfl, rfl⟩)
            | (go_at_call_of 13 (Value.int .i64 m.age); refine (unhide K6 _).mono ?_; rintro e w' ⟨rfl, rfl⟩))
        all_goals go_wp2_with fail
        all_goals go_meet
        all_goals exact ⟨rfl, heap_alloc_new' _, (below_alloc1' V _).drew⟩
      case rest =>
        obtain ⟨rfl, hh, hbc⟩ := hcut
        have hzV : V.heap.size < wc.heap.size := (Array.getElem?_eq_some_iff.1 hh).1
        have hbw4 : Below w.heap.size w wc := hbw3.trans (hbc.mono (by omega))
        have hTc := (unhide HT0).later hbw4
        have hKc := (unhide HK0).later hbw4
        obtain ⟨o, ho⟩ : ∃ o : Msg, o = ⟨2, 1 + p1, p2, ⟨#[107]⟩, p4, p5, p6, 1, ⟨#[118]⟩⟩ := ⟨_, rfl⟩
        have hS : soundB o = true := by rw [ho]; exact own_sound l1 l2 l4 l5 l6
        have HO : Hid (MsgAt wc V.heap.size o) := by rw [ho]; exact MsgAt.of_heap hh
        have HP : Hid (packS o = ⟨(packL o).toArray⟩ ∧ packE o = 0) := by show _ ∧ _; rw [packS, packE, hS]; exact ⟨rfl, rfl⟩
        have HAN := hide (answers_pack o hS)
        obtain ⟨_, _, _, _, _, _, _, _, _, _, _, _, _, _, hk4, hv16⟩ := sound_parts hS
        have hpl : (⟨(packL o).toArray⟩ : ByteArray).size ≤ 1000 := by rw [← size_list]; show (packL o).length ≤ 1000; rw [length_packL]; omega
        have hb : (⟨(packL o).toArray⟩ : ByteArray) = (⟨(packL o).toArray⟩ : ByteArray) := rfl
        clear ho hS hh hbc hb hw1 l1 l2 l4 l5 l6 K1 K2 K4 K5 K6 c1 c2 c4 c5 c6
        generalize (⟨(packL o).toArray⟩ : ByteArray) = pk at *
        obtain ⟨x0, x1, x2, x3, x4, x5, x6, x7, x8⟩ := unhide HO
        go_wp2_with fail
        refine (pack_any o _ (maxLen_small (by omega)) hTc hKc).mono ?_
        rintro e w5 ⟨rfl, hb5⟩
        rw [(unhide HP).1, (unhide HP).2]
        have HO5 : Hid (MsgAt w5 V.heap.size o) := (unhide HO).later hb5 hzV
        have hbw5 := hbw4.trans (hb5.mono hbw4.size)
        have hz5 : V.heap.size < w5.heap.size := Nat.lt_of_lt_of_le hzV hb5.size
        have hT5 := (unhide HT0).later hbw5
        have hK5 := (unhide HK0).later hbw5
        clear x0 x1 x2 x3 x4 x5 x6 x7 x8 hTc hKc hb5
        go_wp2_with fail
        refine (unpack_any pk o 0 (unhide HAN) _ (maxLen_small hpl) hT5 hK5).mono ?_
        rintro e w6 ⟨rfl, hb6⟩
        have hbw6 := hbw5.trans (hb6.mono hbw5.size)
        obtain ⟨x0, x1, x2, x3, x4, x5, x6, x7, x8⟩ := (unhide HO5).later hb6 hz5
        have hz6 : V.heap.size < w6.heap.size := Nat.lt_of_lt_of_le hz5 hb6.size
        clear hb6 hT5 hK5 HO5 HO HAN
        simp only [Msg.cells]
        go_wp2
        go_ret
        exact ⟨rfl, hbw6.alloc hbw6.size _⟩

end Go.Proofs.YtpdkojgepagbnaaDoor
