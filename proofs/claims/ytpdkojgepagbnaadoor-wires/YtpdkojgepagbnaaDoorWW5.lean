/-
  Bytes behind bytes: what the program's appending functions make.
-/
import Derived.Test.YtpdkojgepagbnaaDoorWW4
import Derived.Lib.AppendStr
import Derived.OwnWalk
namespace Go.Proofs.YtpdkojgepagbnaaDoor
set_option maxRecDepth 100000
open Go.RowKit

theorem info5 : (Tryd.prog.info? 5).map (fun i => (i.zero, i.size, i.bytes)) = some (some (.int .u8 0), 1, 1) := by kernel_rfl

def bytesV (l : List UInt8) : List Value := l.map fun c => Value.int .u8 (c.toNat : Int)
theorem bytesV_append (a b : List UInt8) : bytesV (a ++ b) = bytesV a ++ bytesV b := by simp [bytesV]
theorem length_bytesV (l : List UInt8) : (bytesV l).length = l.length := by simp [bytesV]

/-- A slice of bytes of the call's own. -/
def Own (w : World) (base : Nat) (v : Value) (l : List UInt8) : Prop := w.ownsRow base 5 1 v l.length (bytesV l) ∧ base ≤ w.heap.size

theorem Own.alloc {w : World} {base : Nat} {v : Value} {l : List UInt8} (h : Own w base v l) (o : Obj) : Own (w.alloc o) base v l := ⟨h.1.alloc o, by simp; have := h.2; omega⟩

theorem Own.block {w : World} {base : Nat} {v : Value} {l : List UInt8} (h : Own w base v l) : ∀ k, v.ownBlock = some k → base ≤ k := by
  intro k hk
  obtain ⟨_, hv | ⟨g, cap, cur, hv, hb, _⟩⟩ := h.1
  · rw [hv.1] at hk; cases hk
  · rw [hv] at hk; cases hk; exact hb

theorem shr_byte (n k : Nat) : ((n : Int) / 2 ^ (8 * k) % 256) = (((UInt8.ofNat (n / 256 ^ k % 256)).toNat : Nat) : Int) := by
  have e : (2 : Int) ^ (8 * k) = ((256 ^ k : Nat) : Int) := by rw [Int.pow_mul]; simp
  rw [e, UInt8.toNat_ofNat']
  omega

theorem high_step (n width k : Nat) (h : k < width) : highL (n / 256 ^ (width - (k + 1))) (k + 1) = highL (n / 256 ^ (width - k)) k ++ [UInt8.ofNat (n / 256 ^ (width - 1 - k) % 256)] := by
  rw [highL, show width - (k + 1) = width - 1 - k by omega, Nat.div_div_eq_div_mul, ← Nat.pow_succ, show (width - 1 - k).succ = width - k by omega]

set_option maxHeartbeats 1000000 in
theorem appendNumber_any (n width : Nat) (base : Nat) (v : Value) (l : List UInt8) (w : World) (_hn : n < 9223372036854775808) (hw : width ≤ 6) (hl : l.length ≤ 1000) (hown : Own w base v l) :
    Calls Tryd.prog 64 #[v, .int .i64 n, .int .i64 width] w fun e w' => ∃ v', e = .returned v' ∧ Own w' base v' (l ++ highL n width) ∧ Below base w w' := by
  obtain ⟨i0, hi, hz0, hz1, hz2⟩ := info_parts info5
  go_enter Tryd.func64, Tryd.ntmps64
  go_wp2
  go_loopw [0, 7] (fun b i wr => ∃ (k : Nat), k ≤ width ∧ i = .int .i64 ((width : Int) - 1 - k) ∧ Hid (Own wr base b (l ++ highL (n / 256 ^ (width - k)) k)) ∧ Below base w wr) (fun _ i _ => (intOf i + 1).toNat)
  case atStart => exact ⟨0, Nat.zero_le _, by simp, by show Own _ _ _ _; simpa [highL] using hown, Below.refl _ _⟩
  case round =>
    obtain ⟨k, hk, rfl, HO, hb⟩ := hrel
    by_cases hlt : k < width
    · have h1 : (0 : Int) ≤ (width : Int) - 1 - k := by omega
      have h2 : (width : Int) - 1 - k ≤ 5 := by omega
      have hx := shr_byte n (width - 1 - k)
      have HS := hide (high_step n width k hlt)
      generalize UInt8.ofNat (n / 256 ^ (width - 1 - k) % 256) = c at *
      generalize hacc : l ++ highL (n / 256 ^ (width - k)) k = acc at *
      have hal : acc.length ≤ 1006 := by rw [← hacc, List.length_append, length_highL]; omega
      have HA := hide hacc
      clear hacc
      go_wp2_with (at_builtin; refine wpList_append_own _ rfl (.tmp 14) (.tmp 20) 124 rfl base 5 i0 (.int .u8 0) 1 1 Tryd.underlying124 hi hz0 hz1 hz2 rfl (by decide) _ _ _ rfl ((unhide HO).alloc _).1 ⟨wr.heap.size, 0, none⟩ 1 1 [.int .u8 (c.toNat : Int)] rfl rfl ?c1 ?c2 ?c3 ?c4 ?c5 ?_)
      case c1 => exact cell_one_new _ _ _
      case c2 => intro u hu; simp at hu; subst hu; rfl
      case c3 => unfold maxLen; omega
      case c4 => omega
      case c5 => have := (unhide HO).2; simp; omega
      · intro v' w1 hown' hgrow _
        have hO' : Own w1 base v' (acc ++ [c]) := by
          refine ⟨?_, ?_⟩
          · rw [List.length_append, bytesV_append]; exact hown'
          · have := (unhide HO).2; have := hgrow.size; simp at this; omega
        have hb' : Below base w w1 := (hb.alloc (unhide HO).2 _).grown hgrow (by have := (unhide HO).2; simp; omega) (unhide HO).block
        have HO' := hide hO'
        clear hO' hown' hgrow hb
        go_wp2
        go_roundw
        case rel =>
          refine ⟨k + 1, by omega, by go_num, ?_, hb'⟩
          show Own _ _ _ _
          rw [unhide HS, ← List.append_assoc, unhide HA]
          exact unhide HO'
        case measure => simp [intOf]; omega
    · go_wp2
      go_ret
      refine ⟨_, rfl, ?_, hb⟩
      have e : k = width := by omega
      subst e
      have := unhide HO
      rw [Nat.sub_self, Nat.pow_zero, Nat.div_one] at this
      exact this


set_option maxHeartbeats 1000000 in
theorem appendCounted_any (s : ByteArray) (base : Nat) (v : Value) (l : List UInt8) (w : World) (hs : s.size ≤ 16) (hl : l.length ≤ 1000) (hown : Own w base v l) :
    Calls Tryd.prog 65 #[v, .string s] w fun e w' => ∃ v', e = .returned v' ∧ Own w' base v' (l ++ UInt8.ofNat s.size :: s.data.toList) ∧ Below base w w' := by
  obtain ⟨i0, hi, hz0, hz1, hz2⟩ := info_parts info5
  obtain ⟨c, hc⟩ : ∃ c : UInt8, c = UInt8.ofNat s.size := ⟨_, rfl⟩
  have hx : (s.size : Int) = (c.toNat : Int) := by rw [hc, UInt8.toNat_ofNat']; omega
  have HO := hide hown
  have HC := hide hc
  clear hown hc
  go_enter Tryd.func65, Tryd.ntmps65
  go_wp2_with (at_builtin; refine wpList_append_own _ rfl (.tmp 5) (.tmp 9) 124 rfl base 5 i0 (.int .u8 0) 1 1 Tryd.underlying124 hi hz0 hz1 hz2 rfl (by decide) _ _ _ rfl ((unhide HO).alloc _).1 ⟨w.heap.size, 0, none⟩ 1 1 [.int .u8 (c.toNat : Int)] rfl rfl ?c1 ?c2 ?c3 ?c4 ?c5 ?_)
  case c1 => exact cell_one_new _ _ _
  case c2 => intro u hu; simp at hu; subst hu; rfl
  case c3 => unfold maxLen; omega
  case c4 => omega
  case c5 => have := (unhide HO).2; simp; omega
  · intro v' w1 hown' hgrow _
    have hO' : Own w1 base v' (l ++ [c]) := by
      refine ⟨?_, ?_⟩
      · rw [List.length_append, bytesV_append]; exact hown'
      · have := (unhide HO).2; have := hgrow.size; simp at this; omega
    have hb' : Below base w w1 := ((Below.refl _ _).alloc (unhide HO).2 _).grown hgrow (by have := (unhide HO).2; simp; omega) (unhide HO).block
    have HO' := hide hO'
    clear hO' hown' hgrow hx
    have hl1 : (l ++ [c]).length ≤ 1001 := by simp; omega
    generalize hacc : l ++ [c] = acc at *
    have HA := hide hacc
    clear hacc
    go_wp2_with (at_builtin; refine Go.Lib.wpList_append_own_string _ rfl (.tmp 11) (.tmp 12) 124 9 rfl base 5 i0 Tryd.underlying124 Tryd.underlying9 hi hz0 hz1 hz2 _ _ _ rfl (unhide HO').1 s rfl ?d3 ?d4 ?d5 ?_)
    case d3 => unfold maxLen; omega
    case d4 => omega
    case d5 => exact (unhide HO').2
    · intro v2 w2 hown2 hgrow2 _
      have hO2 : Own w2 base v2 (acc ++ s.data.toList) := by
        refine ⟨?_, ?_⟩
        · rw [List.length_append, bytesV_append]
          have e : s.data.toList.length = s.size := by simp
          rw [e]
          exact hown2
        · have := (unhide HO').2; have := hgrow2.size; omega
      have hb2 : Below base w w2 := hb'.grown hgrow2 (unhide HO').2 (unhide HO').block
      clear hown2 hgrow2 hb'
      have HO2 := hide hO2
      clear hO2
      go_wp2
      go_ret
      refine ⟨_, rfl, ?_, hb2⟩
      have := unhide HO2
      rw [← unhide HA, unhide HC, List.append_assoc] at this
      exact this

end Go.Proofs.YtpdkojgepagbnaaDoor
