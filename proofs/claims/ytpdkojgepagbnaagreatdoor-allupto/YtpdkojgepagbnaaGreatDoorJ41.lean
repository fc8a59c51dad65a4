/-
  Unpack: what the program reads out of some bytes.
  Unpack: what the document reads out of some bytes.
  Unpack: all the ways of the program, in one.
  The bytes of a message and the message of some bytes: why the two readings agree, and that packing and unpacking undo one another.
  Unpack, the program's and the document's: they answer alike.
-/
import Derived.Test.YtpdkojgepagbnaaGreatDoorJ40
import Derived.Deep.RegionWith
import Derived.BigRegion
import Derived.Deep.CutRange
namespace Go.Proofs.YtpdkojgepagbnaaGreatDoor
set_option maxRecDepth 100000
set_option maxHeartbeats 8000000
section
open Go.RowKit
theorem wireUnpack_few (s:ByteArray) (w:World) (h:s.size<18) :
    Calls Tryz.prog 60 #[.string s] w fun e w'=>e= .returned (.tuple #[.agg #[.int .i64 0,.int .i64 0,.int .i64 0,.string ⟨#[]⟩,.int .i64 0,.int .i64 0,.int .i64 0,.int .i64 0,.string ⟨#[]⟩],.int .i64 9])∧Below w.heap.size w w':=by
 go_enter Tryz.func60,Tryz.ntmps60
 go_wp2
 exact bodyPost_ret (v:= .tuple #[.agg #[.int .i64 0,.int .i64 0,.int .i64 0,.string ⟨#[]⟩,.int .i64 0,.int .i64 0,.int .i64 0,.int .i64 0,.string ⟨#[]⟩],.int .i64 9]) (by simp [results,Tryz.results60,go_sem]) rfl ⟨rfl,(Below.refl _ _).alloc (Nat.le_refl _) _⟩
def msgOf (s key val:ByteArray) (h:18≤s.size):Msg :=
  ⟨((s[0]'(by omega)).toNat:Int),((s[1]'(by omega)).toNat:Int),((s[2]'(by omega)).toNat:Int),key,(numL (s.extract 3 7).data.toList:Int),(numL (s.extract 7 11).data.toList:Int) - 1,(numL (s.extract 11 17).data.toList:Int),((s[17]'(by omega)).toNat:Int),val⟩
def noMsg:Msg:=⟨0,0,0,⟨#[]⟩,0,0,0,0,⟨#[]⟩⟩
def gotM (m:Msg):Msg:=if soundB m then m else noMsg
theorem numL_four (s:ByteArray) (a b:Nat) (h:b - a≤6):numL (s.extract a b).data.toList<281474976710656:=by
  refine Nat.lt_of_lt_of_le (numL_lt _) ?_
  have h1:(s.extract a b).data.toList.length≤6:=by
    have:(s.extract a b).data.toList.length=(s.extract a b).size:=Array.length_toList
    rw [this,ByteArray.size_extract];omega
  exact Nat.le_trans (Nat.pow_le_pow_right (by decide) h1) (by decide)
theorem number_named (s:ByteArray) (a b:Nat) (h:b - a≤6):∃ n:Nat,(n=numL (s.extract a b).data.toList∧n<281474976710656)∧∀ w,Calls Tryz.prog 95 #[.string (s.extract a b)] w fun e w'=>e= .returned (.int .i64 (n:Int))∧w'=w :=
  ⟨_,⟨rfl,numL_four s a b h⟩,fun w=>wireNumber_any _ w (by rw [ByteArray.size_extract];omega)⟩
theorem frozen_row {w:World} {B j:Nat} {cs:Array Value} {t:TypeId} (h:w.heap[B]?=some (.cells cs t (0,0))):w.frozen? ⟨B,j,none⟩=false:=by
  simp [World.frozen?,h]
theorem wireUnpack_all (s:ByteArray) (k v:Nat) (w:World) (hm:s.size≤maxLen) (h18:18≤s.size) (x:ByteArray) (hx:s.extract 18 s.size=x) (hk:x.toList.isEmpty=false) (h0:0<x.size) (hk0:x[0].toNat=k) (hkl:1+k≤x.size)
    (r:ByteArray) (hr:x.extract (1+k) x.size=r) (hre:r.toList.isEmpty=false) (hr0:0<r.size) (hv0:r[0].toNat=v) (hvl:1+v≤r.size) (hend:(r.extract (1+v) r.size).toList.isEmpty=true) (hT:KindTab w) (hK:KeyTab w) :
    Calls Tryz.prog 60 #[.string s] w fun e w'=>e= .returned (.tuple #[.agg (gotM (msgOf s (x.extract 1 (1+k)) (r.extract 1 (1+v)) h18)).cells,.int .i64 (packE (msgOf s (x.extract 1 (1+k)) (r.extract 1 (1+v)) h18))])∧Below w.heap.size w w':=by
 have hm1:x.size≤maxLen:=by rw [← hx,ByteArray.size_extract];unfold maxLen at *;omega
 have hrm:r.size≤maxLen:=by rw [← hr,ByteArray.size_extract];unfold maxLen at *;omega
 unfold maxLen at hm
 have HR:=hide hr
 clear hr
 go_enter Tryz.func60,Tryz.ntmps60
 go_wp2_with fail
 refine (cut_whole x k _ hm1 h0 hk hk0 hkl).mono ?_
 rintro e w1 ⟨rfl,n1,rfl⟩
 rw [uH HR]
 generalize hkey:x.extract 1 (1+k)=key at *
 have hks:key.size≤256:=by rw [← hkey,ByteArray.size_extract];have:=x[0].toNat_lt;omega
 have HKE:=hide hkey
 clear hkey
 go_wp2_with fail
 refine (cut_whole r v _ hrm hr0 hre hv0 hvl).mono ?_
 rintro e w1 ⟨rfl,n2,rfl⟩
 generalize hval:r.extract 1 (1+v)=val at *
 have HVA:=hide hval
 clear hval
 generalize r.extract (1+v) r.size=z at *
 clear hk h0 hk0 hkl hre hr0 hv0 hvl HR hm1 hrm hx
 go_wp2_with fail
 obtain ⟨W,hW⟩:∃ W,((w.alloc (.cells #[.int .i64 0,.int .i64 0,.int .i64 0,.string ⟨#[]⟩,.int .i64 0,.int .i64 0,.int .i64 0,.int .i64 0,.string ⟨#[]⟩] 37)).drewN (n1+n2))=W:=⟨_,rfl⟩
 rw [hW]
 have hbW:Below w.heap.size w W:=by rw [← hW];exact below_drewN (below_alloc1' _ _) _
 have HW:=hide hW
 clear hW
 obtain ⟨a3,g3,d3⟩:=number_named s 3 7 (by omega)
 obtain ⟨a7,g7,d7⟩:=number_named s 7 11 (by omega)
 obtain ⟨a11,g11,d11⟩:=number_named s 11 17 (by omega)
 have hM:(⟨(s[0].toNat:Int),(s[1].toNat:Int),(s[2].toNat:Int),key,(a3:Int),(a7:Int) - 1,(a11:Int),(s[17].toNat:Int),val⟩:Msg)=msgOf s key val h18:=by rw [g3.1,g7.1,g11.1];rfl
 have HM:=hide hM
 clear hM
 have b7:=g7.2
 clear g3 g7 g11
 go_cut [9] from 38 to 62 (fun p wx=>p= .pointer (some ⟨W.heap.size,0,none⟩)∧wx.heap[W.heap.size]?=some (.cells #[.int .i64 (s[0].toNat:Int),.int .i64 (s[1].toNat:Int),.int .i64 (s[2].toNat:Int),.string key,.int .i64 (a3:Int),.int .i64 ((a7:Int) - 1),.int .i64 (a11:Int),.int .i64 (s[17].toNat:Int),.string val] 37 (0,0))∧Below W.heap.size W wx)
 case first =>
   have j0:0<s.size:=by omega
   have j1:1<s.size:=by omega
   have j2:2<s.size:=by omega
   have j17:17<s.size:=by omega
   have b0:s[0].toNat<256:=s[0].toNat_lt
   have b1:s[1].toNat<256:=s[1].toNat_lt
   have b2:s[2].toNat<256:=s[2].toNat_lt
   have b17:s[17].toNat<256:=s[17].toNat_lt
   have p0:(0:Int)<(s.size:Int):=by omega
   have q0:IntKind.i64.wrap (s[0].toNat:Int)=(s[0].toNat:Int):=by rw [IntKind.wrap_i64];omega
   have p1:(1:Int)<(s.size:Int):=by omega
   have q1:IntKind.i64.wrap (s[1].toNat:Int)=(s[1].toNat:Int):=by rw [IntKind.wrap_i64];omega
   have p2:(2:Int)<(s.size:Int):=by omega
   have q2:IntKind.i64.wrap (s[2].toNat:Int)=(s[2].toNat:Int):=by rw [IntKind.wrap_i64];omega
   have p17:(17:Int)<(s.size:Int):=by omega
   have q17:IntKind.i64.wrap (s[17].toNat:Int)=(s[17].toNat:Int):=by rw [IntKind.wrap_i64];omega
   have q7:IntKind.i64.wrap ((a7:Int)+-1)=(a7:Int) - 1:=by rw [IntKind.wrap_i64];omega
   have D3:=hide d3
   have D7:=hide d7
   have D11:=hide d11
   clear d3 d7 d11
   have i7:(7:Int)≤(s.size:Int):=by omega
   have i11:(11:Int)≤(s.size:Int):=by omega
   have i17:(17:Int)≤(s.size:Int):=by omega
   refine wp_region_any (by kernel_rfl) ?_
   change wpAny _ _ _ _ _ _ _ (World.drew _)
   refine wpAny_take (i:=0) (v:= .string s) rfl (by kernel_rfl) (by kernel_rfl) (by kernel_rfl) (fun _ _ _ h=>h) (Or.inl ⟨by rfl,fun w=>by go_simp⟩) ?_
   refine wpAny_take (i:=1) (v:= .int .u8 (s[0].toNat:Int)) rfl (by kernel_rfl) (by kernel_rfl) (by kernel_rfl) (fun _ _ _ h=>h) (Or.inl ⟨by rfl,fun w=>by go_simp⟩) ?_
   refine wpAny_take (i:=2) (v:= .int .i64 (s[0].toNat:Int)) rfl (by kernel_rfl) (by kernel_rfl) (by kernel_rfl) (fun _ _ _ h=>h) (Or.inl ⟨by rfl,fun w=>by go_simp⟩) ?_
   refine wpAny_take (i:=3) (v:= .string s) rfl (by kernel_rfl) (by kernel_rfl) (by kernel_rfl) (fun _ _ _ h=>h) (Or.inl ⟨by rfl,fun w=>by go_simp⟩) ?_
   refine wpAny_take (i:=4) (v:= .int .u8 (s[1].toNat:Int)) rfl (by kernel_rfl) (by kernel_rfl) (by kernel_rfl) (fun _ _ _ h=>h) (Or.inl ⟨by rfl,fun w=>by go_simp⟩) ?_
   refine wpAny_take (i:=5) (v:= .int .i64 (s[1].toNat:Int)) rfl (by kernel_rfl) (by kernel_rfl) (by kernel_rfl) (fun _ _ _ h=>h) (Or.inl ⟨by rfl,fun w=>by go_simp⟩) ?_
   refine wpAny_take (i:=6) (v:= .string s) rfl (by kernel_rfl) (by kernel_rfl) (by kernel_rfl) (fun _ _ _ h=>h) (Or.inl ⟨by rfl,fun w=>by go_simp⟩) ?_
   refine wpAny_take (i:=7) (v:= .int .u8 (s[2].toNat:Int)) rfl (by kernel_rfl) (by kernel_rfl) (by kernel_rfl) (fun _ _ _ h=>h) (Or.inl ⟨by rfl,fun w=>by go_simp⟩) ?_
   refine wpAny_take (i:=8) (v:= .int .i64 (s[2].toNat:Int)) rfl (by kernel_rfl) (by kernel_rfl) (by kernel_rfl) (fun _ _ _ h=>h) (Or.inl ⟨by rfl,fun w=>by go_simp⟩) ?_
   refine wpAny_take (i:=9) (v:= .string key) rfl (by kernel_rfl) (by kernel_rfl) (by kernel_rfl) (fun _ _ _ h=>h) (Or.inl ⟨by rfl,fun w=>by go_simp⟩) ?_
   refine wpAny_take (i:=10) (v:= .string s) rfl (by kernel_rfl) (by kernel_rfl) (by kernel_rfl) (fun _ _ _ h=>h) (Or.inl ⟨by rfl,fun w=>by go_simp⟩) ?_
   refine wpAny_take (i:=11) (v:= .string (s.extract 3 7)) rfl (by kernel_rfl) (by kernel_rfl) (by kernel_rfl) (fun _ _ _ h=>h) (Or.inl ⟨by rfl,fun w=>by go_simp⟩) ?_
   refine wpAny_take (i:=13) (v:= .string s) rfl (by kernel_rfl) (by kernel_rfl) (by kernel_rfl) (fun _ _ _ h=>h) (Or.inl ⟨by rfl,fun w=>by go_simp⟩) ?_
   refine wpAny_take (i:=14) (v:= .string (s.extract 7 11)) rfl (by kernel_rfl) (by kernel_rfl) (by kernel_rfl) (fun _ _ _ h=>h) (Or.inl ⟨by rfl,fun w=>by go_simp⟩) ?_
   refine wpAny_take (i:=17) (v:= .string s) rfl (by kernel_rfl) (by kernel_rfl) (by kernel_rfl) (fun _ _ _ h=>h) (Or.inl ⟨by rfl,fun w=>by go_simp⟩) ?_
   refine wpAny_take (i:=18) (v:= .string (s.extract 11 17)) rfl (by kernel_rfl) (by kernel_rfl) (by kernel_rfl) (fun _ _ _ h=>h) (Or.inl ⟨by rfl,fun w=>by go_simp⟩) ?_
   refine wpAny_take (i:=20) (v:= .string s) rfl (by kernel_rfl) (by kernel_rfl) (by kernel_rfl) (fun _ _ _ h=>h) (Or.inl ⟨by rfl,fun w=>by go_simp⟩) ?_
   refine wpAny_take (i:=21) (v:= .int .u8 (s[17].toNat:Int)) rfl (by kernel_rfl) (by kernel_rfl) (by kernel_rfl) (fun _ _ _ h=>h) (Or.inl ⟨by rfl,fun w=>by go_simp⟩) ?_
   refine wpAny_take (i:=22) (v:= .int .i64 (s[17].toNat:Int)) rfl (by kernel_rfl) (by kernel_rfl) (by kernel_rfl) (fun _ _ _ h=>h) (Or.inl ⟨by rfl,fun w=>by go_simp⟩) ?_
   refine wpAny_take (i:=23) (v:= .string val) rfl (by kernel_rfl) (by kernel_rfl) (by kernel_rfl) (fun _ _ _ h=>h) (Or.inl ⟨by rfl,fun w=>by go_simp⟩) ?_
   refine wpAny_ready (rs:=[12,25]) (by kernel_rfl) (by simp) ?_
   refine AllReady.cons rfl (fun K hK=>?_) ?_
   ·go_simp
    go_wp2_with (go_at_call 95;refine (uH D3 _).mono ?_;rintro e w' ⟨rfl,rfl⟩)
    refine wpAny_ready (rs:=[15,25]) (by kernel_rfl) (by simp) ?_
    refine AllReady.cons rfl (fun K hK=>?_) ?_
    ·go_simp
     go_wp2_with (go_at_call 95;refine (uH D7 _).mono ?_;rintro e w' ⟨rfl,rfl⟩)
     refine wpAny_take (i:=16) (v:= .int .i64 ((a7:Int) - 1)) rfl (by kernel_rfl) (by kernel_rfl) (by kernel_rfl) (fun _ _ _ h=>h) (Or.inl ⟨by rfl,fun w=>by go_simp⟩) ?_
     refine wpAny_ready (rs:=[19,25]) (by kernel_rfl) (by simp) ?_
     refine AllReady.cons rfl (fun K hK=>?_) ?_
     ·go_simp
      go_wp2_with (go_at_call 95;refine (uH D11 _).mono ?_;rintro e w' ⟨rfl,rfl⟩)
      refine wpAny_take (i:=24) (v:= .agg #[.int .i64 (s[0].toNat:Int),.int .i64 (s[1].toNat:Int),.int .i64 (s[2].toNat:Int),.string key,.int .i64 (a3:Int),.int .i64 ((a7:Int) - 1),.int .i64 (a11:Int),.int .i64 (s[17].toNat:Int),.string val]) rfl (by kernel_rfl) (by kernel_rfl) (by kernel_rfl) (fun _ _ _ h=>h) (Or.inl ⟨by rfl,fun w=>by go_simp⟩) ?_
      refine wpAny_ready (rs:=[25]) (by kernel_rfl) (by simp) ?_
      refine AllReady.cons rfl (fun K hK=>?_) AllReady.nil
      go_simp
      refine hK _ _ ?_
      clear hK K
      refine wpAny_ready (rs:=[26]) (by kernel_rfl) (by simp) ?_
      refine AllReady.cons rfl (fun K hK=>?_) AllReady.nil
      go_simp
      refine hK _ _ ?_
      clear hK K
      refine wpAny_done (by kernel_rfl) ?_ _
      go_wp2_with fail
      go_meet
      exact ⟨rfl,wHeap_alloc_new' _,(below_alloc1' W _).drew⟩
     refine AllReady.cons rfl (fun K hK=>?_) ?_
     ·go_simp
      refine hK _ _ ?_
      clear hK K
      refine wpAny_ready (rs:=[19]) (by kernel_rfl) (by simp) ?_
      refine AllReady.cons rfl (fun K hK=>?_) AllReady.nil
      go_simp
      go_wp2_with (go_at_call 95;refine (uH D11 _).mono ?_;rintro e w' ⟨rfl,rfl⟩)
      refine wpAny_take (i:=24) (v:= .agg #[.int .i64 (s[0].toNat:Int),.int .i64 (s[1].toNat:Int),.int .i64 (s[2].toNat:Int),.string key,.int .i64 (a3:Int),.int .i64 ((a7:Int) - 1),.int .i64 (a11:Int),.int .i64 (s[17].toNat:Int),.string val]) rfl (by kernel_rfl) (by kernel_rfl) (by kernel_rfl) (fun _ _ _ h=>h) (Or.inl ⟨by rfl,fun w=>by go_simp⟩) ?_
      refine wpAny_ready (rs:=[26]) (by kernel_rfl) (by simp) ?_
      refine AllReady.cons rfl (fun K hK=>?_) AllReady.nil
      go_simp
      refine hK _ _ ?_
      clear hK K
      refine wpAny_done (by kernel_rfl) ?_ _
      go_wp2_with fail
      go_meet
      exact ⟨rfl,wHeap_alloc_new' _,(below_alloc1' W _).drew⟩
     exact AllReady.nil
    refine AllReady.cons rfl (fun K hK=>?_) ?_
    ·go_simp
     refine hK _ _ ?_
     clear hK K
     refine wpAny_ready (rs:=[15]) (by kernel_rfl) (by simp) ?_
     refine AllReady.cons rfl (fun K hK=>?_) AllReady.nil
     go_simp
     go_wp2_with (go_at_call 95;refine (uH D7 _).mono ?_;rintro e w' ⟨rfl,rfl⟩)
     refine wpAny_take (i:=16) (v:= .int .i64 ((a7:Int) - 1)) rfl (by kernel_rfl) (by kernel_rfl) (by kernel_rfl) (fun _ _ _ h=>h) (Or.inl ⟨by rfl,fun w=>by go_simp⟩) ?_
     refine wpAny_ready (rs:=[19]) (by kernel_rfl) (by simp) ?_
     refine AllReady.cons rfl (fun K hK=>?_) ?_
     ·go_simp
      go_wp2_with (go_at_call 95;refine (uH D11 _).mono ?_;rintro e w' ⟨rfl,rfl⟩)
      refine wpAny_take (i:=24) (v:= .agg #[.int .i64 (s[0].toNat:Int),.int .i64 (s[1].toNat:Int),.int .i64 (s[2].toNat:Int),.string key,.int .i64 (a3:Int),.int .i64 ((a7:Int) - 1),.int .i64 (a11:Int),.int .i64 (s[17].toNat:Int),.string val]) rfl (by kernel_rfl) (by kernel_rfl) (by kernel_rfl) (fun _ _ _ h=>h) (Or.inl ⟨by rfl,fun w=>by go_simp⟩) ?_
      refine wpAny_ready (rs:=[26]) (by kernel_rfl) (by simp) ?_
      refine AllReady.cons rfl (fun K hK=>?_) AllReady.nil
      go_simp
      refine hK _ _ ?_
      clear hK K
      refine wpAny_done (by kernel_rfl) ?_ _
      go_wp2_with fail
      go_meet
      exact ⟨rfl,wHeap_alloc_new' _,(below_alloc1' W _).drew⟩
     exact AllReady.nil
    exact AllReady.nil
   refine AllReady.cons rfl (fun K hK=>?_) ?_
   ·go_simp
    refine hK _ _ ?_
    clear hK K
    refine wpAny_ready (rs:=[12]) (by kernel_rfl) (by simp) ?_
    refine AllReady.cons rfl (fun K hK=>?_) AllReady.nil
    go_simp
    go_wp2_with (go_at_call 95;refine (uH D3 _).mono ?_;rintro e w' ⟨rfl,rfl⟩)
    refine wpAny_ready (rs:=[15]) (by kernel_rfl) (by simp) ?_
    refine AllReady.cons rfl (fun K hK=>?_) ?_
    ·go_simp
     go_wp2_with (go_at_call 95;refine (uH D7 _).mono ?_;rintro e w' ⟨rfl,rfl⟩)
     refine wpAny_take (i:=16) (v:= .int .i64 ((a7:Int) - 1)) rfl (by kernel_rfl) (by kernel_rfl) (by kernel_rfl) (fun _ _ _ h=>h) (Or.inl ⟨by rfl,fun w=>by go_simp⟩) ?_
     refine wpAny_ready (rs:=[19]) (by kernel_rfl) (by simp) ?_
     refine AllReady.cons rfl (fun K hK=>?_) ?_
     ·go_simp
      go_wp2_with (go_at_call 95;refine (uH D11 _).mono ?_;rintro e w' ⟨rfl,rfl⟩)
      refine wpAny_take (i:=24) (v:= .agg #[.int .i64 (s[0].toNat:Int),.int .i64 (s[1].toNat:Int),.int .i64 (s[2].toNat:Int),.string key,.int .i64 (a3:Int),.int .i64 ((a7:Int) - 1),.int .i64 (a11:Int),.int .i64 (s[17].toNat:Int),.string val]) rfl (by kernel_rfl) (by kernel_rfl) (by kernel_rfl) (fun _ _ _ h=>h) (Or.inl ⟨by rfl,fun w=>by go_simp⟩) ?_
      refine wpAny_ready (rs:=[26]) (by kernel_rfl) (by simp) ?_
      refine AllReady.cons rfl (fun K hK=>?_) AllReady.nil
      go_simp
      refine hK _ _ ?_
      clear hK K
      refine wpAny_done (by kernel_rfl) ?_ _
      go_wp2_with fail
      go_meet
      exact ⟨rfl,wHeap_alloc_new' _,(below_alloc1' W _).drew⟩
     exact AllReady.nil
    exact AllReady.nil
   exact AllReady.nil
 case rest =>
   obtain ⟨rfl,hh,hbc⟩:=hcut
   have hzW:W.heap[w.heap.size]?=some (.cells noMsg.cells 37 (0,0)):=by rw [← uH HW];exact wHeap_alloc_new' _
   have hwW:w.heap.size<W.heap.size:=(Array.getElem?_eq_some_iff.1 hzW).1
   have hcW:W.heap.size<wc.heap.size:=(Array.getElem?_eq_some_iff.1 hh).1
   have hZ:wc.heap[w.heap.size]?=some (.cells noMsg.cells 37 (0,0)):=by rw [hbc.block _ hwW];exact hzW
   have hTc:KindTab wc:=(hT.later hbW).later hbc
   have hKc:KeyTab wc:=(hK.later hbW).later hbc
   obtain ⟨c0,c1,c2,c3,c4,c5,c6,c7,c8⟩:=MsgAt.of_heap (m:=⟨(s[0].toNat:Int),(s[1].toNat:Int),(s[2].toNat:Int),key,(a3:Int),(a7:Int) - 1,(a11:Int),(s[17].toNat:Int),val⟩) hh
   have HH:=hide hh
   have HZ:=hide hZ
   clear hh hZ hzW d3 d7 d11
   go_wp2_with fail
   refine (wireRight_any ⟨(s[0].toNat:Int),(s[1].toNat:Int),(s[2].toNat:Int),key,(a3:Int),(a7:Int) - 1,(a11:Int),(s[17].toNat:Int),val⟩ wc (show key.size≤maxLen by unfold maxLen;omega) hTc hKc).mono ?_
   rintro e w5 ⟨rfl,hb5⟩
   rw [uH HM]
   have hb5':Below w.heap.size w w5:=hbW.trans ((hbc.mono (by omega)).trans (hb5.mono (by omega)))
   have hZ5:w5.heap[w.heap.size]?=some (.cells noMsg.cells 37 (0,0)):=by rw [hb5.block _ (by omega)];exact uH HZ
   have hH5:w5.heap[W.heap.size]?=some (.cells (msgOf s key val h18).cells 37 (0,0)):=by rw [hb5.block _ hcW,← uH HM];exact uH HH
   have hs5:W.heap.size<w5.heap.size:=Nat.lt_of_lt_of_le hcW hb5.size
   clear c0 c1 c2 c3 c4 c5 c6 c7 c8 hTc hKc hT hK HH HZ HW hb5 hbc
   cases hS:soundB (msgOf s key val h18) with
   | false =>
     have HP:Hid (gotM (msgOf s (x.extract 1 (1+k)) (r.extract 1 (1+v)) h18)=noMsg∧packE (msgOf s (x.extract 1 (1+k)) (r.extract 1 (1+v)) h18)=9):=by
       show _∧_
       rw [uH HKE,uH HVA,gotM,packE,hS];exact ⟨rfl,rfl⟩
     clear hS HM HKE HVA hH5
     obtain ⟨z0,z1,z2,z3,z4,z5,z6,z7,z8⟩:=MsgAt.of_heap hZ5
     have hf:∀ i,w5.frozen? ⟨w.heap.size,i,none⟩=false:=fun i=>frozen_row hZ5
     clear hZ5
     go_wp2
     exact bodyPost_ret (v:= .tuple #[.agg #[.int .i64 0,.int .i64 0,.int .i64 0,.string ⟨#[]⟩,.int .i64 0,.int .i64 0,.int .i64 0,.int .i64 0,.string ⟨#[]⟩],.int .i64 9]) (by simp [results,Tryz.results60,go_sem,z0,z1,z2,z3,z4,z5,z6,z7,z8]) rfl
       ⟨by rw [(uH HP).1,(uH HP).2];rfl,(((((((((hb5'.setCell (Nat.le_refl _) _).setCell (Nat.le_refl _) _).setCell (Nat.le_refl _) _).setCell (Nat.le_refl _) _).setCell (Nat.le_refl _) _).setCell (Nat.le_refl _) _).setCell (Nat.le_refl _) _).setCell (Nat.le_refl _) _).setCell (Nat.le_refl _) _)⟩
   | true =>
     have HP:Hid (gotM (msgOf s (x.extract 1 (1+k)) (r.extract 1 (1+v)) h18)=msgOf s key val h18∧packE (msgOf s (x.extract 1 (1+k)) (r.extract 1 (1+v)) h18)=0):=by
       show _∧_
       rw [uH HKE,uH HVA,gotM,packE,hS];exact ⟨rfl,rfl⟩
     have hsp:=sound_parts hS
     have hvs:val.size≤16:=by have:=hsp.2.2.2.2.2.2.2.2.2.2.2.2.2.2.2;exact this
     clear hsp hS HKE HVA
     go_wp2_with fail
     refine (wClone_any key _ (by omega)).mono ?_
     rintro e w6 ⟨rfl,hb6⟩
     go_wp2_with fail
     refine (wClone_any val _ (by omega)).mono ?_
     rintro e w7 ⟨rfl,hb7⟩
     have hb57:Below w5.heap.size w5 w7:=hb6.trans (hb7.mono hb6.size)
     have hb7':Below w.heap.size w w7:=hb5'.trans (hb57.mono hb5'.size)
     have hZ7:w7.heap[w.heap.size]?=some (.cells noMsg.cells 37 (0,0)):=by rw [hb57.block _ (by omega)];exact hZ5
     have hH7:w7.heap[W.heap.size]?=some (.cells (⟨(s[0].toNat:Int),(s[1].toNat:Int),(s[2].toNat:Int),key,(a3:Int),(a7:Int) - 1,(a11:Int),(s[17].toNat:Int),val⟩:Msg).cells 37 (0,0)):=by rw [hb57.block _ hs5,uH HM];exact hH5
     clear hb6 hb7 hb57 hZ5 hH5 hb5'
     obtain ⟨z0,z1,z2,z3,z4,z5,z6,z7,z8⟩:=MsgAt.of_heap hZ7
     obtain ⟨c0,c1,c2,c3,c4,c5,c6,c7,c8⟩:=MsgAt.of_heap hH7
     have hf:∀ i,w7.frozen? ⟨w.heap.size,i,none⟩=false:=fun i=>frozen_row hZ7
     have hg:∀ i,w7.frozen? ⟨W.heap.size,i,none⟩=false:=fun i=>frozen_row hH7
     clear hZ7 hH7
     have hne:w.heap.size≠W.heap.size:=by omega
     have hne':W.heap.size≠w.heap.size:=by omega
     go_wp2
     exact bodyPost_ret (v:= .tuple #[.agg #[.int .i64 (s[0].toNat:Int),.int .i64 (s[1].toNat:Int),.int .i64 (s[2].toNat:Int),.string key,.int .i64 (a3:Int),.int .i64 ((a7:Int) - 1),.int .i64 (a11:Int),.int .i64 (s[17].toNat:Int),.string val],.int .i64 0]) (by simp [results,Tryz.results60,go_sem,z0,z1,z2,z3,z4,z5,z6,z7,z8]) rfl
       ⟨by rw [(uH HP).1,(uH HP).2,← uH HM];rfl,(((((((((((hb7'.setCell (p:=⟨W.heap.size,3,none⟩) (show w.heap.size≤W.heap.size by omega) _).setCell (p:=⟨W.heap.size,8,none⟩) (show w.heap.size≤W.heap.size by omega) _).setCell (Nat.le_refl _) _).setCell (Nat.le_refl _) _).setCell (Nat.le_refl _) _).setCell (Nat.le_refl _) _).setCell (Nat.le_refl _) _).setCell (Nat.le_refl _) _).setCell (Nat.le_refl _) _).setCell (Nat.le_refl _) _).setCell (Nat.le_refl _) _)⟩
theorem refNumber_named (s:ByteArray) (a b:Nat) (h:b - a≤6):∃ n:Nat,(n=numL (s.extract a b).data.toList∧n<281474976710656)∧∀ w,Calls Tryz.prog 61 #[.string (s.extract a b)] w fun e w'=>e= .returned (.int .i64 (n:Int))∧w'=w :=
  ⟨_,⟨rfl,numL_four s a b h⟩,fun w=>refNumber_any _ w (by rw [ByteArray.size_extract];omega)⟩
theorem heap_alloc_at {g:Nat} (w:World) (o:Obj) (hg:g=w.heap.size):(w.alloc o).heap[g]?=some o:=by
  subst hg;exact wHeap_alloc_new' o
theorem refUnpack_few (s:ByteArray) (w:World) (h:s.size<20) :
    Calls Tryz.prog 31 #[.string s] w fun e w'=>e= .returned (.tuple #[.agg noMsg.cells,.int .i64 9])∧Below w.heap.size w w':=by
 go_enter Tryz.func31,Tryz.ntmps31
 go_wp2
 exact bodyPost_ret (v:= .tuple #[.agg #[.int .i64 0,.int .i64 0,.int .i64 0,.string ⟨#[]⟩,.int .i64 0,.int .i64 0,.int .i64 0,.int .i64 0,.string ⟨#[]⟩],.int .i64 9]) (by simp [results,Tryz.results31,go_sem]) rfl ⟨rfl,((Below.refl _ _).alloc (Nat.le_refl _) _).alloc (by simp) _⟩
theorem refUnpack_short (s:ByteArray) (k:Nat) (w:World) (hm:s.size≤maxLen) (h20:20≤s.size) (hk:s[18].toNat=k) (h:s.size<20+k) :
    Calls Tryz.prog 31 #[.string s] w fun e w'=>e= .returned (.tuple #[.agg noMsg.cells,.int .i64 9])∧Below w.heap.size w w':=by
 unfold maxLen at hm
 have hc2:k<256:=by rw [← hk];exact s[18].toNat_lt
 have i18:(18:Int)<(s.size:Int):=by omega
 go_enter Tryz.func31,Tryz.ntmps31
 go_wp2
 exact bodyPost_ret (v:= .tuple #[.agg #[.int .i64 0,.int .i64 0,.int .i64 0,.string ⟨#[]⟩,.int .i64 0,.int .i64 0,.int .i64 0,.int .i64 0,.string ⟨#[]⟩],.int .i64 9]) (by simp [results,Tryz.results31,go_sem]) rfl ⟨rfl,((Below.refl _ _).alloc (Nat.le_refl _) _).alloc (by simp) _⟩
def refGot (s:ByteArray) (m:Msg):Bool:=soundB m && ((packS m).toList == s.toList)
def refM (s:ByteArray) (m:Msg):Msg:=if refGot s m then m else noMsg
def refE (s:ByteArray) (m:Msg):Int:=if refGot s m then 0 else 9
theorem refUnpack_all (s:ByteArray) (k:Nat) (w:World) (hm:s.size≤maxLen) (h18:18≤s.size) (hlen:20+k≤s.size) (hk:(s[18]'(by omega)).toNat=k) :
    Calls Tryz.prog 31 #[.string s] w fun e w'=>e= .returned (.tuple #[.agg (refM s (msgOf s (s.extract 19 (19+k)) (s.extract (20+k) s.size) h18)).cells,.int .i64 (refE s (msgOf s (s.extract 19 (19+k)) (s.extract (20+k) s.size) h18))])∧Below w.heap.size w w':=by
 unfold maxLen at hm
 have hc2:k<256:=by rw [← hk];exact s[18].toNat_lt
 have i18:(18:Int)<(s.size:Int):=by omega
 have hl1:¬ (s.size:Int)<20:=by omega
 have hl2:¬ (s.size:Int)<20+(k:Int):=by omega
 go_enter Tryz.func31,Tryz.ntmps31
 go_wp2_with fail
 clear hl1 hl2
 obtain ⟨W,hW⟩:∃ W,((w.alloc (.cells #[.int .i64 0,.int .i64 0,.int .i64 0,.string ⟨#[]⟩,.int .i64 0,.int .i64 0,.int .i64 0,.int .i64 0,.string ⟨#[]⟩] 37)).alloc (.cells #[.int .i64 0,.int .i64 0,.int .i64 0,.string ⟨#[]⟩,.int .i64 0,.int .i64 0,.int .i64 0,.int .i64 0,.string ⟨#[]⟩] 37))=W:=⟨_,rfl⟩
 rw [hW]
 have hbW:Below w.heap.size w W:=by rw [← hW];exact ((Below.refl _ _).alloc (Nat.le_refl _) _).alloc (by simp) _
 have hzW:W.heap[w.heap.size]?=some (.cells noMsg.cells 37 (0,0)):=by rw [← hW,Below.heap_alloc _ _ _ (by simp)];exact wHeap_alloc_new' _
 have hnW:W.heap[w.heap.size+1]?=some (.cells noMsg.cells 37 (0,0)):=by rw [← hW];exact heap_alloc_at _ _ (by simp)
 clear hW
 obtain ⟨a3,g3,d3⟩:=refNumber_named s 3 7 (by omega)
 obtain ⟨a7,g7,d7⟩:=refNumber_named s 7 11 (by omega)
 obtain ⟨a11,g11,d11⟩:=refNumber_named s 11 17 (by omega)
 have hM:(⟨(s[0].toNat:Int),(s[1].toNat:Int),(s[2].toNat:Int),s.extract 19 (19+k),(a3:Int),(a7:Int) - 1,(a11:Int),(s[17].toNat:Int),s.extract (20+k) s.size⟩:Msg)=msgOf s (s.extract 19 (19+k)) (s.extract (20+k) s.size) h18:=by rw [g3.1,g7.1,g11.1];rfl
 have HM:=hide hM
 clear hM
 have b7:=g7.2
 have HZ:=hide hzW
 have HN:=hide hnW
 have hwW:w.heap.size+1<W.heap.size:=(Array.getElem?_eq_some_iff.1 hnW).1
 clear g3 g7 g11 hzW hnW
 go_cut [6] from 23 to 53 (fun p wx=>p= .pointer (some ⟨W.heap.size,0,none⟩)∧wx.heap[W.heap.size]?=some (.cells #[.int .i64 (s[0].toNat:Int),.int .i64 (s[1].toNat:Int),.int .i64 (s[2].toNat:Int),.string (s.extract 19 (19+k)),.int .i64 (a3:Int),.int .i64 ((a7:Int) - 1),.int .i64 (a11:Int),.int .i64 (s[17].toNat:Int),.string (s.extract (20+k) s.size)] 37 (0,0))∧Below W.heap.size W wx)
 case first =>
   have j0:0<s.size:=by omega
   have b0:s[0].toNat<256:=s[0].toNat_lt
   have p0:(0:Int)<(s.size:Int):=by omega
   have q0:IntKind.i64.wrap (s[0].toNat:Int)=(s[0].toNat:Int):=by rw [IntKind.wrap_i64];omega
   have j1:1<s.size:=by omega
   have b1:s[1].toNat<256:=s[1].toNat_lt
   have p1:(1:Int)<(s.size:Int):=by omega
   have q1:IntKind.i64.wrap (s[1].toNat:Int)=(s[1].toNat:Int):=by rw [IntKind.wrap_i64];omega
   have j2:2<s.size:=by omega
   have b2:s[2].toNat<256:=s[2].toNat_lt
   have p2:(2:Int)<(s.size:Int):=by omega
   have q2:IntKind.i64.wrap (s[2].toNat:Int)=(s[2].toNat:Int):=by rw [IntKind.wrap_i64];omega
   have j17:17<s.size:=by omega
   have b17:s[17].toNat<256:=s[17].toNat_lt
   have p17:(17:Int)<(s.size:Int):=by omega
   have q17:IntKind.i64.wrap (s[17].toNat:Int)=(s[17].toNat:Int):=by rw [IntKind.wrap_i64];omega
   have q7:IntKind.i64.wrap ((a7:Int) - 1)=(a7:Int) - 1:=by rw [IntKind.wrap_i64];omega
   have qa:IntKind.i64.wrap (19+(k:Int))=19+(k:Int):=by rw [IntKind.wrap_i64];omega
   have qb:IntKind.i64.wrap (20+(k:Int))=20+(k:Int):=by rw [IntKind.wrap_i64];omega
   have t19:(19+(k:Int)).toNat=19+k:=by omega
   have t20:(20+(k:Int)).toNat=20+k:=by omega
   have D3:=hide d3
   have D7:=hide d7
   have D11:=hide d11
   clear d3 d7 d11
   have i7:(7:Int)≤(s.size:Int):=by omega
   have i11:(11:Int)≤(s.size:Int):=by omega
   have i17:(17:Int)≤(s.size:Int):=by omega
   have i19:(19:Int)≤19+(k:Int):=by omega
   have i19':19+(k:Int)≤(s.size:Int):=by omega
   have i20:(0:Int)≤20+(k:Int):=by omega
   have i20':20+(k:Int)≤(s.size:Int):=by omega
   refine wp_region_any (by kernel_rfl) ?_
   change wpAny _ _ _ _ _ _ _ (World.drew _)
   refine wpAny_take (i:=0) (v:= .string s) rfl (by kernel_rfl) (by kernel_rfl) (by kernel_rfl) (fun _ _ _ h=>h) (Or.inl ⟨by rfl,fun w=>by go_simp⟩) ?_
   refine wpAny_take (i:=1) (v:= .int .u8 (s[0].toNat:Int)) rfl (by kernel_rfl) (by kernel_rfl) (by kernel_rfl) (fun _ _ _ h=>h) (Or.inl ⟨by rfl,fun w=>by go_simp⟩) ?_
   refine wpAny_take (i:=2) (v:= .int .i64 (s[0].toNat:Int)) rfl (by kernel_rfl) (by kernel_rfl) (by kernel_rfl) (fun _ _ _ h=>h) (Or.inl ⟨by rfl,fun w=>by go_simp⟩) ?_
   refine wpAny_take (i:=3) (v:= .string s) rfl (by kernel_rfl) (by kernel_rfl) (by kernel_rfl) (fun _ _ _ h=>h) (Or.inl ⟨by rfl,fun w=>by go_simp⟩) ?_
   refine wpAny_take (i:=4) (v:= .int .u8 (s[1].toNat:Int)) rfl (by kernel_rfl) (by kernel_rfl) (by kernel_rfl) (fun _ _ _ h=>h) (Or.inl ⟨by rfl,fun w=>by go_simp⟩) ?_
   refine wpAny_take (i:=5) (v:= .int .i64 (s[1].toNat:Int)) rfl (by kernel_rfl) (by kernel_rfl) (by kernel_rfl) (fun _ _ _ h=>h) (Or.inl ⟨by rfl,fun w=>by go_simp⟩) ?_
   refine wpAny_take (i:=6) (v:= .string s) rfl (by kernel_rfl) (by kernel_rfl) (by kernel_rfl) (fun _ _ _ h=>h) (Or.inl ⟨by rfl,fun w=>by go_simp⟩) ?_
   refine wpAny_take (i:=7) (v:= .int .u8 (s[2].toNat:Int)) rfl (by kernel_rfl) (by kernel_rfl) (by kernel_rfl) (fun _ _ _ h=>h) (Or.inl ⟨by rfl,fun w=>by go_simp⟩) ?_
   refine wpAny_take (i:=8) (v:= .int .i64 (s[2].toNat:Int)) rfl (by kernel_rfl) (by kernel_rfl) (by kernel_rfl) (fun _ _ _ h=>h) (Or.inl ⟨by rfl,fun w=>by go_simp⟩) ?_
   refine wpAny_take (i:=9) (v:= .string s) rfl (by kernel_rfl) (by kernel_rfl) (by kernel_rfl) (fun _ _ _ h=>h) (Or.inl ⟨by rfl,fun w=>by go_simp⟩) ?_
   refine wpAny_take (i:=10) (v:= .string (s.extract 3 7)) rfl (by kernel_rfl) (by kernel_rfl) (by kernel_rfl) (fun _ _ _ h=>h) (Or.inl ⟨by rfl,fun w=>by go_simp⟩) ?_
   refine wpAny_take (i:=12) (v:= .string s) rfl (by kernel_rfl) (by kernel_rfl) (by kernel_rfl) (fun _ _ _ h=>h) (Or.inl ⟨by rfl,fun w=>by go_simp⟩) ?_
   refine wpAny_take (i:=13) (v:= .string (s.extract 7 11)) rfl (by kernel_rfl) (by kernel_rfl) (by kernel_rfl) (fun _ _ _ h=>h) (Or.inl ⟨by rfl,fun w=>by go_simp⟩) ?_
   refine wpAny_take (i:=16) (v:= .string s) rfl (by kernel_rfl) (by kernel_rfl) (by kernel_rfl) (fun _ _ _ h=>h) (Or.inl ⟨by rfl,fun w=>by go_simp⟩) ?_
   refine wpAny_take (i:=17) (v:= .string (s.extract 11 17)) rfl (by kernel_rfl) (by kernel_rfl) (by kernel_rfl) (fun _ _ _ h=>h) (Or.inl ⟨by rfl,fun w=>by go_simp⟩) ?_
   refine wpAny_take (i:=19) (v:= .string s) rfl (by kernel_rfl) (by kernel_rfl) (by kernel_rfl) (fun _ _ _ h=>h) (Or.inl ⟨by rfl,fun w=>by go_simp⟩) ?_
   refine wpAny_take (i:=20) (v:= .int .u8 (s[17].toNat:Int)) rfl (by kernel_rfl) (by kernel_rfl) (by kernel_rfl) (fun _ _ _ h=>h) (Or.inl ⟨by rfl,fun w=>by go_simp⟩) ?_
   refine wpAny_take (i:=21) (v:= .int .i64 (s[17].toNat:Int)) rfl (by kernel_rfl) (by kernel_rfl) (by kernel_rfl) (fun _ _ _ h=>h) (Or.inl ⟨by rfl,fun w=>by go_simp⟩) ?_
   refine wpAny_take (i:=22) (v:= .string s) rfl (by kernel_rfl) (by kernel_rfl) (by kernel_rfl) (fun _ _ _ h=>h) (Or.inl ⟨by rfl,fun w=>by go_simp⟩) ?_
   refine wpAny_take (i:=23) (v:= .int .i64 (k:Int)) rfl (by kernel_rfl) (by kernel_rfl) (by kernel_rfl) (fun _ _ _ h=>h) (Or.inl ⟨by rfl,fun w=>by go_simp⟩) ?_
   refine wpAny_take (i:=24) (v:= .int .i64 (19+(k:Int))) rfl (by kernel_rfl) (by kernel_rfl) (by kernel_rfl) (fun _ _ _ h=>h) (Or.inl ⟨by rfl,fun w=>by go_simp⟩) ?_
   refine wpAny_take (i:=25) (v:= .string (s.extract 19 (19+k))) rfl (by kernel_rfl) (by kernel_rfl) (by kernel_rfl) (fun _ _ _ h=>h) (Or.inl ⟨by rfl,fun w=>by go_simp⟩) ?_
   refine wpAny_take (i:=26) (v:= .string s) rfl (by kernel_rfl) (by kernel_rfl) (by kernel_rfl) (fun _ _ _ h=>h) (Or.inl ⟨by rfl,fun w=>by go_simp⟩) ?_
   refine wpAny_take (i:=27) (v:= .int .i64 (k:Int)) rfl (by kernel_rfl) (by kernel_rfl) (by kernel_rfl) (fun _ _ _ h=>h) (Or.inl ⟨by rfl,fun w=>by go_simp⟩) ?_
   refine wpAny_take (i:=28) (v:= .int .i64 (20+(k:Int))) rfl (by kernel_rfl) (by kernel_rfl) (by kernel_rfl) (fun _ _ _ h=>h) (Or.inl ⟨by rfl,fun w=>by go_simp⟩) ?_
   refine wpAny_take (i:=29) (v:= .string (s.extract (20+k) s.size)) rfl (by kernel_rfl) (by kernel_rfl) (by kernel_rfl) (fun _ _ _ h=>h) (Or.inl ⟨by rfl,fun w=>by go_simp⟩) ?_
   refine wpAny_ready (rs:=[11,31]) (by kernel_rfl) (by simp) ?_
   refine AllReady.cons rfl (fun K hK=>?_) ?_
   ·go_simp
    go_wp2_with (go_at_call 61;refine (uH D3 _).mono ?_;rintro e w' ⟨rfl,rfl⟩)
    refine wpAny_ready (rs:=[14,31]) (by kernel_rfl) (by simp) ?_
    refine AllReady.cons rfl (fun K hK=>?_) ?_
    ·go_simp
     go_wp2_with (go_at_call 61;refine (uH D7 _).mono ?_;rintro e w' ⟨rfl,rfl⟩)
     refine wpAny_take (i:=15) (v:= .int .i64 ((a7:Int) - 1)) rfl (by kernel_rfl) (by kernel_rfl) (by kernel_rfl) (fun _ _ _ h=>h) (Or.inl ⟨by rfl,fun w=>by go_simp⟩) ?_
     refine wpAny_ready (rs:=[18,31]) (by kernel_rfl) (by simp) ?_
     refine AllReady.cons rfl (fun K hK=>?_) ?_
     ·go_simp
      go_wp2_with (go_at_call 61;refine (uH D11 _).mono ?_;rintro e w' ⟨rfl,rfl⟩)
      refine wpAny_take (i:=30) (v:= .agg #[.int .i64 (s[0].toNat:Int),.int .i64 (s[1].toNat:Int),.int .i64 (s[2].toNat:Int),.string (s.extract 19 (19+k)),.int .i64 (a3:Int),.int .i64 ((a7:Int) - 1),.int .i64 (a11:Int),.int .i64 (s[17].toNat:Int),.string (s.extract (20+k) s.size)]) rfl (by kernel_rfl) (by kernel_rfl) (by kernel_rfl) (fun _ _ _ h=>h) (Or.inl ⟨by rfl,fun w=>by go_simp⟩) ?_
      refine wpAny_ready (rs:=[31]) (by kernel_rfl) (by simp) ?_
      refine AllReady.cons rfl (fun K hK=>?_) AllReady.nil
      go_simp
      refine hK _ _ ?_
      clear hK K
      refine wpAny_ready (rs:=[32]) (by kernel_rfl) (by simp) ?_
      refine AllReady.cons rfl (fun K hK=>?_) AllReady.nil
      go_simp
      refine hK _ _ ?_
      clear hK K
      refine wpAny_done (by kernel_rfl) ?_ _
      go_wp2_with fail
      go_meet
      exact ⟨rfl,wHeap_alloc_new' _,(below_alloc1' W _).drew⟩
     refine AllReady.cons rfl (fun K hK=>?_) ?_
     ·go_simp
      refine hK _ _ ?_
      clear hK K
      refine wpAny_ready (rs:=[18]) (by kernel_rfl) (by simp) ?_
      refine AllReady.cons rfl (fun K hK=>?_) AllReady.nil
      go_simp
      go_wp2_with (go_at_call 61;refine (uH D11 _).mono ?_;rintro e w' ⟨rfl,rfl⟩)
      refine wpAny_take (i:=30) (v:= .agg #[.int .i64 (s[0].toNat:Int),.int .i64 (s[1].toNat:Int),.int .i64 (s[2].toNat:Int),.string (s.extract 19 (19+k)),.int .i64 (a3:Int),.int .i64 ((a7:Int) - 1),.int .i64 (a11:Int),.int .i64 (s[17].toNat:Int),.string (s.extract (20+k) s.size)]) rfl (by kernel_rfl) (by kernel_rfl) (by kernel_rfl) (fun _ _ _ h=>h) (Or.inl ⟨by rfl,fun w=>by go_simp⟩) ?_
      refine wpAny_ready (rs:=[32]) (by kernel_rfl) (by simp) ?_
      refine AllReady.cons rfl (fun K hK=>?_) AllReady.nil
      go_simp
      refine hK _ _ ?_
      clear hK K
      refine wpAny_done (by kernel_rfl) ?_ _
      go_wp2_with fail
      go_meet
      exact ⟨rfl,wHeap_alloc_new' _,(below_alloc1' W _).drew⟩
     exact AllReady.nil
    refine AllReady.cons rfl (fun K hK=>?_) ?_
    ·go_simp
     refine hK _ _ ?_
     clear hK K
     refine wpAny_ready (rs:=[14]) (by kernel_rfl) (by simp) ?_
     refine AllReady.cons rfl (fun K hK=>?_) AllReady.nil
     go_simp
     go_wp2_with (go_at_call 61;refine (uH D7 _).mono ?_;rintro e w' ⟨rfl,rfl⟩)
     refine wpAny_take (i:=15) (v:= .int .i64 ((a7:Int) - 1)) rfl (by kernel_rfl) (by kernel_rfl) (by kernel_rfl) (fun _ _ _ h=>h) (Or.inl ⟨by rfl,fun w=>by go_simp⟩) ?_
     refine wpAny_ready (rs:=[18]) (by kernel_rfl) (by simp) ?_
     refine AllReady.cons rfl (fun K hK=>?_) ?_
     ·go_simp
      go_wp2_with (go_at_call 61;refine (uH D11 _).mono ?_;rintro e w' ⟨rfl,rfl⟩)
      refine wpAny_take (i:=30) (v:= .agg #[.int .i64 (s[0].toNat:Int),.int .i64 (s[1].toNat:Int),.int .i64 (s[2].toNat:Int),.string (s.extract 19 (19+k)),.int .i64 (a3:Int),.int .i64 ((a7:Int) - 1),.int .i64 (a11:Int),.int .i64 (s[17].toNat:Int),.string (s.extract (20+k) s.size)]) rfl (by kernel_rfl) (by kernel_rfl) (by kernel_rfl) (fun _ _ _ h=>h) (Or.inl ⟨by rfl,fun w=>by go_simp⟩) ?_
      refine wpAny_ready (rs:=[32]) (by kernel_rfl) (by simp) ?_
      refine AllReady.cons rfl (fun K hK=>?_) AllReady.nil
      go_simp
      refine hK _ _ ?_
      clear hK K
      refine wpAny_done (by kernel_rfl) ?_ _
      go_wp2_with fail
      go_meet
      exact ⟨rfl,wHeap_alloc_new' _,(below_alloc1' W _).drew⟩
     exact AllReady.nil
    exact AllReady.nil
   refine AllReady.cons rfl (fun K hK=>?_) ?_
   ·go_simp
    refine hK _ _ ?_
    clear hK K
    refine wpAny_ready (rs:=[11]) (by kernel_rfl) (by simp) ?_
    refine AllReady.cons rfl (fun K hK=>?_) AllReady.nil
    go_simp
    go_wp2_with (go_at_call 61;refine (uH D3 _).mono ?_;rintro e w' ⟨rfl,rfl⟩)
    refine wpAny_ready (rs:=[14]) (by kernel_rfl) (by simp) ?_
    refine AllReady.cons rfl (fun K hK=>?_) ?_
    ·go_simp
     go_wp2_with (go_at_call 61;refine (uH D7 _).mono ?_;rintro e w' ⟨rfl,rfl⟩)
     refine wpAny_take (i:=15) (v:= .int .i64 ((a7:Int) - 1)) rfl (by kernel_rfl) (by kernel_rfl) (by kernel_rfl) (fun _ _ _ h=>h) (Or.inl ⟨by rfl,fun w=>by go_simp⟩) ?_
     refine wpAny_ready (rs:=[18]) (by kernel_rfl) (by simp) ?_
     refine AllReady.cons rfl (fun K hK=>?_) ?_
     ·go_simp
      go_wp2_with (go_at_call 61;refine (uH D11 _).mono ?_;rintro e w' ⟨rfl,rfl⟩)
      refine wpAny_take (i:=30) (v:= .agg #[.int .i64 (s[0].toNat:Int),.int .i64 (s[1].toNat:Int),.int .i64 (s[2].toNat:Int),.string (s.extract 19 (19+k)),.int .i64 (a3:Int),.int .i64 ((a7:Int) - 1),.int .i64 (a11:Int),.int .i64 (s[17].toNat:Int),.string (s.extract (20+k) s.size)]) rfl (by kernel_rfl) (by kernel_rfl) (by kernel_rfl) (fun _ _ _ h=>h) (Or.inl ⟨by rfl,fun w=>by go_simp⟩) ?_
      refine wpAny_ready (rs:=[32]) (by kernel_rfl) (by simp) ?_
      refine AllReady.cons rfl (fun K hK=>?_) AllReady.nil
      go_simp
      refine hK _ _ ?_
      clear hK K
      refine wpAny_done (by kernel_rfl) ?_ _
      go_wp2_with fail
      go_meet
      exact ⟨rfl,wHeap_alloc_new' _,(below_alloc1' W _).drew⟩
     exact AllReady.nil
    exact AllReady.nil
   exact AllReady.nil
 case rest =>
   obtain ⟨rfl,hh,hbc⟩:=hcut
   have hcW:W.heap.size<wc.heap.size:=(Array.getElem?_eq_some_iff.1 hh).1
   have hZ:wc.heap[w.heap.size]?=some (.cells noMsg.cells 37 (0,0)):=by rw [hbc.block _ (by omega)];exact uH HZ
   have hN:wc.heap[w.heap.size+1]?=some (.cells noMsg.cells 37 (0,0)):=by rw [hbc.block _ (by omega)];exact uH HN
   obtain ⟨c0,c1,c2,c3,c4,c5,c6,c7,c8⟩:=MsgAt.of_heap (m:=⟨(s[0].toNat:Int),(s[1].toNat:Int),(s[2].toNat:Int),s.extract 19 (19+k),(a3:Int),(a7:Int) - 1,(a11:Int),(s[17].toNat:Int),s.extract (20+k) s.size⟩) hh
   have hks:(s.extract 19 (19+k)).size≤maxLen:=by rw [ByteArray.size_extract];unfold maxLen;omega
   have HH:=hide hh
   clear hh HZ HN d3 d7 d11
   have HZ:=hide hZ
   have HN:=hide hN
   clear hZ hN
   go_wp2_with fail
   refine (refPack_any ⟨(s[0].toNat:Int),(s[1].toNat:Int),(s[2].toNat:Int),s.extract 19 (19+k),(a3:Int),(a7:Int) - 1,(a11:Int),(s[17].toNat:Int),s.extract (20+k) s.size⟩ wc hks).mono ?_
   rintro e w5 ⟨rfl,hb5⟩
   rw [uH HM]
   have hb5':Below w.heap.size w w5:=hbW.trans ((hbc.mono (by omega)).trans (hb5.mono (by omega)))
   have hZ5:w5.heap[w.heap.size]?=some (.cells noMsg.cells 37 (0,0)):=by rw [hb5.block _ (by omega)];exact uH HZ
   have hN5:w5.heap[w.heap.size+1]?=some (.cells noMsg.cells 37 (0,0)):=by rw [hb5.block _ (by omega)];exact uH HN
   have hH5:w5.heap[W.heap.size]?=some (.cells (⟨(s[0].toNat:Int),(s[1].toNat:Int),(s[2].toNat:Int),s.extract 19 (19+k),(a3:Int),(a7:Int) - 1,(a11:Int),(s[17].toNat:Int),s.extract (20+k) s.size⟩:Msg).cells 37 (0,0)):=by rw [hb5.block _ hcW];exact uH HH
   clear c0 c1 c2 c3 c4 c5 c6 c7 c8 HH HZ HN hb5 hbc
   obtain ⟨z0,z1,z2,z3,z4,z5,z6,z7,z8⟩:=MsgAt.of_heap hZ5
   obtain ⟨n0,n1,n2,n3,n4,n5,n6,n7,n8⟩:=MsgAt.of_heap hN5
   obtain ⟨c0,c1,c2,c3,c4,c5,c6,c7,c8⟩:=MsgAt.of_heap hH5
   have hf:∀ i,w5.frozen? ⟨w.heap.size,i,none⟩=false:=fun i=>frozen_row hZ5
   clear hZ5 hN5 hH5
   have hne:w.heap.size≠W.heap.size:=by omega
   have hne':W.heap.size≠w.heap.size:=by omega
   cases hS:soundB (msgOf s (s.extract 19 (19+k)) (s.extract (20+k) s.size) h18) with
   | false =>
     have HG:Hid (refGot s (msgOf s (s.extract 19 (19+k)) (s.extract (20+k) s.size) h18)=false):=by show _=_;rw [refGot,hS];rfl
     have hE:packE (msgOf s (s.extract 19 (19+k)) (s.extract (20+k) s.size) h18)=9:=by rw [packE,hS];rfl
     clear hS
     rw [hE]
     clear hE HM
     go_wp2
     exact bodyPost_ret (v:= .tuple #[.agg #[.int .i64 noMsg.kind,.int .i64 noMsg.frm,.int .i64 noMsg.to,.string noMsg.key,.int .i64 noMsg.serial,.int .i64 noMsg.version,.int .i64 noMsg.age,.int .i64 noMsg.present,.string noMsg.value],.int .i64 9]) (by simp [results,Tryz.results31,go_sem,z0,z1,z2,z3,z4,z5,z6,z7,z8]) rfl ⟨by rw [refM,refE,uH HG];rfl,(((((((((hb5'.setCell (Nat.le_refl _) _).setCell (Nat.le_refl _) _).setCell (Nat.le_refl _) _).setCell (Nat.le_refl _) _).setCell (Nat.le_refl _) _).setCell (Nat.le_refl _) _).setCell (Nat.le_refl _) _).setCell (Nat.le_refl _) _).setCell (Nat.le_refl _) _)⟩
   | true =>
     have hE:packE (msgOf s (s.extract 19 (19+k)) (s.extract (20+k) s.size) h18)=0:=by rw [packE,hS];rfl
     rw [hE]
     clear hE
     cases hT:((packS (msgOf s (s.extract 19 (19+k)) (s.extract (20+k) s.size) h18)).toList == s.toList) with
     | false =>
       have HG:Hid (refGot s (msgOf s (s.extract 19 (19+k)) (s.extract (20+k) s.size) h18)=false):=by show _=_;rw [refGot,hS,hT];rfl
       clear hS HM
       go_wp2
       exact bodyPost_ret (v:= .tuple #[.agg #[.int .i64 noMsg.kind,.int .i64 noMsg.frm,.int .i64 noMsg.to,.string noMsg.key,.int .i64 noMsg.serial,.int .i64 noMsg.version,.int .i64 noMsg.age,.int .i64 noMsg.present,.string noMsg.value],.int .i64 9]) (by simp [results,Tryz.results31,go_sem,z0,z1,z2,z3,z4,z5,z6,z7,z8]) rfl ⟨by rw [refM,refE,uH HG];rfl,(((((((((hb5'.setCell (Nat.le_refl _) _).setCell (Nat.le_refl _) _).setCell (Nat.le_refl _) _).setCell (Nat.le_refl _) _).setCell (Nat.le_refl _) _).setCell (Nat.le_refl _) _).setCell (Nat.le_refl _) _).setCell (Nat.le_refl _) _).setCell (Nat.le_refl _) _)⟩
     | true =>
       have HG:Hid (refGot s (msgOf s (s.extract 19 (19+k)) (s.extract (20+k) s.size) h18)=true):=by show _=_;rw [refGot,hS,hT];rfl
       clear hS
       go_wp2
       exact bodyPost_ret (v:= .tuple #[.agg #[.int .i64 (s[0].toNat:Int),.int .i64 (s[1].toNat:Int),.int .i64 (s[2].toNat:Int),.string (s.extract 19 (19+k)),.int .i64 (a3:Int),.int .i64 ((a7:Int) - 1),.int .i64 (a11:Int),.int .i64 (s[17].toNat:Int),.string (s.extract (20+k) s.size)],.int .i64 0]) (by simp [results,Tryz.results31,go_sem,z0,z1,z2,z3,z4,z5,z6,z7,z8]) rfl ⟨by rw [refM,refE,uH HG,if_pos rfl,if_pos rfl,← uH HM];rfl,(((((((((hb5'.setCell (Nat.le_refl _) _).setCell (Nat.le_refl _) _).setCell (Nat.le_refl _) _).setCell (Nat.le_refl _) _).setCell (Nat.le_refl _) _).setCell (Nat.le_refl _) _).setCell (Nat.le_refl _) _).setCell (Nat.le_refl _) _).setCell (Nat.le_refl _) _)⟩
theorem empty_true {s:ByteArray} (h:s.size=0):s.toList.isEmpty=true:=by
  rw [Lib.toList_data,List.isEmpty_iff]
  apply List.eq_nil_of_length_eq_zero
  rw [← Lib.size_eq];exact h
theorem empty_false {s:ByteArray} (h:0<s.size):s.toList.isEmpty=false:=by
  rw [Lib.toList_data,List.isEmpty_eq_false_iff]
  intro e
  rw [Lib.size_eq,e] at h
  cases h
theorem cut_not (x:ByteArray) (w:World) (hm:x.size≤maxLen) (h:∀ h0:0<x.size,x.size<1+x[0].toNat) :
    Calls Tryz.prog 94 #[.string x] w fun e w'=>e= .returned (.tuple #[.string ⟨#[]⟩,.string ⟨#[]⟩,.bool false])∧w'=w:=by
 by_cases h0:0<x.size
 ·exact cut_short x _ w hm h0 (empty_false h0) rfl (by have:=h h0;omega)
 ·exact cut_empty x w (empty_true (by omega))
theorem wireUnpack_cut1 (s:ByteArray) (w:World) (hm:s.size≤maxLen) (h18:18≤s.size) (x:ByteArray) (hx:s.extract 18 s.size=x) (hn:∀ h0:0<x.size,x.size<1+x[0].toNat) :
    Calls Tryz.prog 60 #[.string s] w fun e w'=>e= .returned (.tuple #[.agg noMsg.cells,.int .i64 9])∧Below w.heap.size w w':=by
 have hm1:x.size≤maxLen:=by rw [← hx,ByteArray.size_extract];unfold maxLen at *;omega
 unfold maxLen at hm
 have HN:=hide hn
 clear hn
 go_enter Tryz.func60,Tryz.ntmps60
 go_wp2_with fail
 refine (cut_not x _ hm1 (uH HN)).mono ?_
 rintro e w1 ⟨rfl,rfl⟩
 go_wp2_with fail
 refine (cut_not ⟨#[]⟩ _ (Nat.zero_le _) (fun h=>by cases h)).mono ?_
 rintro e w1 ⟨rfl,rfl⟩
 go_wp2
 exact bodyPost_ret (v:= .tuple #[.agg #[.int .i64 0,.int .i64 0,.int .i64 0,.string ⟨#[]⟩,.int .i64 0,.int .i64 0,.int .i64 0,.int .i64 0,.string ⟨#[]⟩],.int .i64 9]) (by simp [results,Tryz.results60,go_sem]) rfl ⟨rfl,(Below.refl _ _).alloc (Nat.le_refl _) _⟩
theorem wireUnpack_cut2 (s:ByteArray) (k:Nat) (w:World) (hm:s.size≤maxLen) (h18:18≤s.size) (x:ByteArray) (hx:s.extract 18 s.size=x) (h0:0<x.size) (hk0:x[0].toNat=k) (hkl:1+k≤x.size)
    (r:ByteArray) (hr:x.extract (1+k) x.size=r) (hn:∀ h0:0<r.size,r.size<1+r[0].toNat) :
    Calls Tryz.prog 60 #[.string s] w fun e w'=>e= .returned (.tuple #[.agg noMsg.cells,.int .i64 9])∧Below w.heap.size w w':=by
 have hm1:x.size≤maxLen:=by rw [← hx,ByteArray.size_extract];unfold maxLen at *;omega
 have hrm:r.size≤maxLen:=by rw [← hr,ByteArray.size_extract];unfold maxLen at *;omega
 unfold maxLen at hm
 have hk:=empty_false h0
 have HR:=hide hr
 have HN:=hide hn
 clear hr hn
 go_enter Tryz.func60,Tryz.ntmps60
 go_wp2_with fail
 refine (cut_whole x k _ hm1 h0 hk hk0 hkl).mono ?_
 rintro e w1 ⟨rfl,n1,rfl⟩
 rw [uH HR]
 generalize x.extract 1 (1+k)=key at *
 go_wp2_with fail
 refine (cut_not r _ hrm (uH HN)).mono ?_
 rintro e w1 ⟨rfl,rfl⟩
 clear hk h0 hk0 hkl HR HN hm1 hrm hx
 go_wp2
 exact bodyPost_ret (v:= .tuple #[.agg #[.int .i64 0,.int .i64 0,.int .i64 0,.string ⟨#[]⟩,.int .i64 0,.int .i64 0,.int .i64 0,.int .i64 0,.string ⟨#[]⟩],.int .i64 9]) (by simp [results,Tryz.results60,go_sem]) rfl ⟨rfl,((((((((((below_drewN ((Below.refl _ _).alloc (Nat.le_refl _) _) _).setCell (Nat.le_refl _) _).setCell (Nat.le_refl _) _).setCell (Nat.le_refl _) _).setCell (Nat.le_refl _) _).setCell (Nat.le_refl _) _).setCell (Nat.le_refl _) _).setCell (Nat.le_refl _) _).setCell (Nat.le_refl _) _).setCell (Nat.le_refl _) _)⟩
theorem wireUnpack_left (s:ByteArray) (k v:Nat) (w:World) (hm:s.size≤maxLen) (h18:18≤s.size) (x:ByteArray) (hx:s.extract 18 s.size=x) (h0:0<x.size) (hk0:x[0].toNat=k) (hkl:1+k≤x.size)
    (r:ByteArray) (hr:x.extract (1+k) x.size=r) (hr0:0<r.size) (hv0:r[0].toNat=v) (hvl:1+v≤r.size) (hend:0<(r.extract (1+v) r.size).size) :
    Calls Tryz.prog 60 #[.string s] w fun e w'=>e= .returned (.tuple #[.agg noMsg.cells,.int .i64 9])∧Below w.heap.size w w':=by
 have hm1:x.size≤maxLen:=by rw [← hx,ByteArray.size_extract];unfold maxLen at *;omega
 have hrm:r.size≤maxLen:=by rw [← hr,ByteArray.size_extract];unfold maxLen at *;omega
 unfold maxLen at hm
 have hk:=empty_false h0
 have hre:=empty_false hr0
 have hze:=empty_false hend
 have HR:=hide hr
 clear hr
 go_enter Tryz.func60,Tryz.ntmps60
 go_wp2_with fail
 refine (cut_whole x k _ hm1 h0 hk hk0 hkl).mono ?_
 rintro e w1 ⟨rfl,n1,rfl⟩
 rw [uH HR]
 generalize x.extract 1 (1+k)=key at *
 go_wp2_with fail
 refine (cut_whole r v _ hrm hr0 hre hv0 hvl).mono ?_
 rintro e w1 ⟨rfl,n2,rfl⟩
 generalize r.extract 1 (1+v)=val at *
 generalize r.extract (1+v) r.size=z at *
 clear hk h0 hk0 hkl hre hr0 hv0 hvl HR hm1 hrm hx hend
 go_wp2
 exact bodyPost_ret (v:= .tuple #[.agg #[.int .i64 0,.int .i64 0,.int .i64 0,.string ⟨#[]⟩,.int .i64 0,.int .i64 0,.int .i64 0,.int .i64 0,.string ⟨#[]⟩],.int .i64 9]) (by simp [results,Tryz.results60,go_sem]) rfl ⟨rfl,((((((((((below_drewN ((Below.refl _ _).alloc (Nat.le_refl _) _) _).setCell (Nat.le_refl _) _).setCell (Nat.le_refl _) _).setCell (Nat.le_refl _) _).setCell (Nat.le_refl _) _).setCell (Nat.le_refl _) _).setCell (Nat.le_refl _) _).setCell (Nat.le_refl _) _).setCell (Nat.le_refl _) _).setCell (Nat.le_refl _) _)⟩
theorem byte_at (s:ByteArray) (a b i j:Nat) (hj:a+i=j) (h:i<(s.extract a b).size) (h':j<s.size):(s.extract a b)[i].toNat=s[j].toNat:=by
  subst hj
  rw [ByteArray.getElem_extract]
structure Shape (s:ByteArray) (k:Nat):Prop where
  len:20+k≤s.size
  hk:(s[18]'(by omega)).toNat=k
  hv:(s[19+k]'(by omega)).toNat=s.size - (20+k)
theorem Shape.le {s:ByteArray} {k:Nat} (h:Shape s k):18≤s.size:=by have:=h.len;omega
def shapeM (s:ByteArray) (k:Nat) (h:18≤s.size):Msg:=msgOf s (s.extract 19 (19+k)) (s.extract (20+k) s.size) h
theorem wireUnpack_yes (s:ByteArray) (k:Nat) (w:World) (hm:s.size≤maxLen) (h:Shape s k) (hT:KindTab w) (hK:KeyTab w) :
    Calls Tryz.prog 60 #[.string s] w fun e w'=>e= .returned (.tuple #[.agg (gotM (shapeM s k h.le)).cells,.int .i64 (packE (shapeM s k h.le))])∧Below w.heap.size w w':=by
 have hl:=h.len
 have hxs:(s.extract 18 s.size).size=s.size - 18:=by rw [ByteArray.size_extract];omega
 have hk0:((s.extract 18 s.size)[0]'(by omega)).toNat=k:=(byte_at s 18 s.size 0 18 rfl (by omega) (by omega)).trans h.hk
 have hre:(s.extract 18 s.size).extract (1+k) (s.extract 18 s.size).size=s.extract (19+k) s.size:=by rw [ByteArray.extract_extract,hxs,show 18+(1+k)=19+k by omega,show min (18+(s.size - 18)) s.size=s.size by omega]
 have hrs:(s.extract (19+k) s.size).size=s.size - (19+k):=by rw [ByteArray.size_extract];omega
 have hv0:((s.extract (19+k) s.size)[0]'(by omega)).toNat=s.size - (20+k):=(byte_at s (19+k) s.size 0 (19+k) rfl (by omega) (by omega)).trans h.hv
 have e1:(s.extract 18 s.size).extract 1 (1+k)=s.extract 19 (19+k):=by rw [ByteArray.extract_extract,show min (18+(1+k)) s.size=19+k by omega]
 have e2:(s.extract (19+k) s.size).extract 1 (1+(s.size - (20+k)))=s.extract (20+k) s.size:=by rw [ByteArray.extract_extract,show 19+k+1=20+k by omega,show min (19+k+(1+(s.size - (20+k)))) s.size=s.size by omega]
 have z0:0<(s.extract 18 s.size).size:=by omega
 have z1:1+k≤(s.extract 18 s.size).size:=by omega
 have z2:0<(s.extract (19+k) s.size).size:=by omega
 have z3:1+(s.size - (20+k))≤(s.extract (19+k) s.size).size:=by omega
 have z4:((s.extract (19+k) s.size).extract (1+(s.size - (20+k))) (s.extract (19+k) s.size).size).size=0:=by rw [ByteArray.size_extract];omega
 have this:=wireUnpack_all s k (s.size - (20+k)) w hm h.le (s.extract 18 s.size) rfl (empty_false z0) z0 hk0 z1 (s.extract (19+k) s.size) hre (empty_false z2) z2 hv0 z3 (empty_true z4) hT hK
 rw [e1,e2] at this
 exact this
theorem wireUnpack_no (s:ByteArray) (w:World) (hm:s.size≤maxLen) (h:∀ k,¬ Shape s k) :
    Calls Tryz.prog 60 #[.string s] w fun e w'=>e= .returned (.tuple #[.agg noMsg.cells,.int .i64 9])∧Below w.heap.size w w':=by
 by_cases h18:18≤s.size
 ·obtain ⟨x,hx⟩:∃ x,s.extract 18 s.size=x:=⟨_,rfl⟩
  have hxs:x.size=s.size - 18:=by rw [← hx,ByteArray.size_extract];omega
  by_cases h0:0<x.size
  ·obtain ⟨k,hk0⟩:∃ k,x[0].toNat=k:=⟨_,rfl⟩
   by_cases hkl:1+k≤x.size
   ·obtain ⟨r,hr⟩:∃ r,x.extract (1+k) x.size=r:=⟨_,rfl⟩
    have hrs:r.size=s.size - (19+k):=by rw [← hr,ByteArray.size_extract];omega
    by_cases hr0:0<r.size
    ·obtain ⟨v,hv0⟩:∃ v,r[0].toNat=v:=⟨_,rfl⟩
     by_cases hvl:1+v≤r.size
     ·refine wireUnpack_left s k v w hm h18 x hx h0 hk0 hkl r hr hr0 hv0 hvl ?_
      rw [ByteArray.size_extract]
      apply Classical.byContradiction
      intro hz
      have hv1:v=s.size - (20+k):=by omega
      have hk1:(s[18]'(by omega)).toNat=k:=by
        subst hx
        exact (byte_at s 18 s.size 0 18 rfl h0 (by omega)).symm.trans hk0
      have hv2:(s[19+k]'(by omega)).toNat=v:=by
        subst hr
        have e1:=byte_at x (1+k) x.size 0 (1+k) rfl hr0 (by omega)
        rw [hv0] at e1
        subst hx
        have e2:=byte_at s 18 s.size (1+k) (19+k) (by omega) (by omega) (by omega)
        exact e2.symm.trans e1.symm
      exact h k ⟨by omega,hk1,hv2.trans hv1⟩
     ·exact wireUnpack_cut2 s k w hm h18 x hx h0 hk0 hkl r hr (fun _=>by rw [hv0];omega)
    ·exact wireUnpack_cut2 s k w hm h18 x hx h0 hk0 hkl r hr (fun h=>absurd h hr0)
   ·exact wireUnpack_cut1 s w hm h18 x hx (fun _=>by rw [hk0];omega)
  ·exact wireUnpack_cut1 s w hm h18 x hx (fun h=>absurd h h0)
 ·exact wireUnpack_few s w (by omega)
theorem drop_cons {L:List UInt8} {i:Nat} (h:i<L.length):L.drop i=L[i] :: L.drop (i+1):=List.drop_eq_getElem_cons h
theorem drop_part (L:List UInt8) (a b:Nat):L.drop a=(L.drop a).take b ++ L.drop (a+b):=by
  conv=>lhs;rw [← List.take_append_drop b (L.drop a)]
  rw [List.drop_drop]
theorem places (L:List UInt8) (k:Nat) (h:20+k≤L.length) :
    L=L[0] :: L[1] :: L[2] :: ((L.drop 3).take 4 ++ ((L.drop 7).take 4 ++ ((L.drop 11).take 6 ++ (L[17] :: L[18] :: ((L.drop 19).take k ++ (L[19+k] :: L.drop (20+k))))))):=by
 have d20:L.drop (19+k)=L[19+k] :: L.drop (20+k):=by rw [drop_cons (show 19+k<L.length by omega),show 19+k+1=20+k by omega]
 have d19:L.drop 19=(L.drop 19).take k ++ L.drop (19+k):=drop_part L 19 k
 have d18:L.drop 18=L[18] :: L.drop 19:=drop_cons (by omega)
 have d17:L.drop 17=L[17] :: L.drop 18:=drop_cons (by omega)
 have d11:L.drop 11=(L.drop 11).take 6 ++ L.drop 17:=drop_part L 11 6
 have d7:L.drop 7=(L.drop 7).take 4 ++ L.drop 11:=drop_part L 7 4
 have d3:L.drop 3=(L.drop 3).take 4 ++ L.drop 7:=drop_part L 3 4
 have d2:L.drop 2=L[2] :: L.drop 3:=drop_cons (by omega)
 have d1:L.drop 1=L[1] :: L.drop 2:=drop_cons (by omega)
 have d0:L.drop 0=L[0] :: L.drop 1:=drop_cons (by omega)
 rw [← d20,← d19,← d18,← d17,← d11,← d7,← d3,← d2,← d1,← d0]
 rfl
theorem u8_byte (c:UInt8):u8 (c.toNat:Int)=c:=by simp [u8]
theorem high_part (s:ByteArray) (a b:Nat) (h:b≤s.size) (hab:a≤b):highL (numL (s.extract a b).data.toList) (b - a)=(s.data.toList.drop a).take (b - a):=by
  have hl:(s.extract a b).data.toList.length=b - a:=by rw [← Lib.size_eq,ByteArray.size_extract];omega
  conv=>lhs;rw [← hl,high_numL]
  exact Lib.extract_data s a b
theorem pack_shape (s:ByteArray) (k:Nat) (h18:18≤s.size) (h:20+k≤s.size) (hk:(s[18]'(by omega)).toNat=k) :
    packL (shapeM s k h18)=s[0] :: s[1] :: s[2] :: ((s.data.toList.drop 3).take 4 ++ ((s.data.toList.drop 7).take 4 ++ ((s.data.toList.drop 11).take 6 ++ (s[17] :: s[18] :: ((s.data.toList.drop 19).take k ++ (UInt8.ofNat (s.size - (20+k)) :: s.data.toList.drop (20+k))))))):=by
 have e1:=high_part s 3 7 (by omega) (by omega)
 have e2:=high_part s 7 11 (by omega) (by omega)
 have e3:=high_part s 11 17 (by omega) (by omega)
 have e4:(s.extract 19 (19+k)).data.toList=(s.data.toList.drop 19).take k:=by rw [Lib.extract_data];congr 1;omega
 have e5:(s.extract (20+k) s.size).data.toList=s.data.toList.drop (20+k):=by
   rw [Lib.extract_data]
   apply List.take_of_length_le
   rw [List.length_drop,← Lib.size_eq];omega
 have e6:(s.extract 19 (19+k)).size=k:=by rw [ByteArray.size_extract];omega
 have e7:(s.extract (20+k) s.size).size=s.size - (20+k):=by rw [ByteArray.size_extract];omega
 have hk256:k<256:=by have:=s[18].toNat_lt;omega
 have e8:UInt8.ofNat k=s[18]:=UInt8.toNat_inj.1 (by rw [UInt8.toNat_ofNat',hk];omega)
 have e9:((numL (s.extract 7 11).data.toList:Int) - 1+1).toNat=numL (s.extract 7 11).data.toList:=by omega
 simp only [packL,shapeM,msgOf,u8_byte,Int.toNat_natCast,e9,e4,e5,e6,e7,e8]
 rw [show (4:Nat)=7 - 3 from rfl,e1,show (7 - 3:Nat)=11 - 7 from rfl,e2,show (6:Nat)=17 - 11 from rfl,e3]
 simp
theorem size_list (s:ByteArray):s.data.toList.length=s.size:=(Lib.size_eq s).symm
theorem places_s (s:ByteArray) (k:Nat) (h:20+k≤s.size) :
    s.data.toList=s[0] :: s[1] :: s[2] :: ((s.data.toList.drop 3).take 4 ++ ((s.data.toList.drop 7).take 4 ++ ((s.data.toList.drop 11).take 6 ++ (s[17] :: s[18] :: ((s.data.toList.drop 19).take k ++ (s[19+k] :: s.data.toList.drop (20+k))))))) :=
 places s.data.toList k (by rw [size_list];exact h)
theorem pack_yes (s:ByteArray) (k:Nat) (h:Shape s k):packL (shapeM s k h.le)=s.data.toList:=by
  rw [pack_shape s k h.le h.len h.hk]
  conv=>rhs;rw [places_s s k h.len]
  have hl:=h.len
  have hb:=(s[19+k]'(by omega)).toNat_lt
  have e:UInt8.ofNat (s.size - (20+k))=s[19+k]:=UInt8.toNat_inj.1 (by rw [UInt8.toNat_ofNat',h.hv];have:=h.hv;omega)
  rw [e]
theorem tail_inj {α:Type} {X Y Z T R:List α} {a b c p q v v':α} (h:a :: b :: c :: (X ++ (Y ++ (Z ++ (p :: q :: (T ++ (v :: R))))))=a :: b :: c :: (X ++ (Y ++ (Z ++ (p :: q :: (T ++ (v' :: R))))))):v=v':=by
  simp only [List.cons.injEq,true_and] at h
  have h1:=List.append_cancel_left h
  have h2:=List.append_cancel_left h1
  have h3:=List.append_cancel_left h2
  simp only [List.cons.injEq,true_and] at h3
  have h4:=List.append_cancel_left h3
  simp only [List.cons.injEq] at h4
  exact h4.1
theorem shape_of_pack (s:ByteArray) (k:Nat) (h18:18≤s.size) (h:20+k≤s.size) (hk:(s[18]'(by omega)).toNat=k) (hS:soundB (shapeM s k h18)=true) (hp:packL (shapeM s k h18)=s.data.toList):Shape s k:=by
  refine ⟨h,hk,?_⟩
  rw [pack_shape s k h18 h hk] at hp
  have hp':=hp.trans (places_s s k h)
  have e:=tail_inj hp'
  have hv:(s.extract (20+k) s.size).size≤16:=(sound_parts hS).2.2.2.2.2.2.2.2.2.2.2.2.2.2.2
  rw [ByteArray.size_extract] at hv
  rw [← e,UInt8.toNat_ofNat']
  omega
def Answers (s:ByteArray) (m:Msg) (e:Int):Prop:=(∃ k,∃ h:Shape s k,m=gotM (shapeM s k h.le)∧e=packE (shapeM s k h.le))∨((∀ k,¬ Shape s k)∧m=noMsg∧e=9)
theorem answers_ex (s:ByteArray):∃ m e,Answers s m e:=by
  by_cases h:∃ k,Shape s k
  ·obtain ⟨k,hk⟩:=h
   exact ⟨_,_,.inl ⟨k,hk,rfl,rfl⟩⟩
  ·exact ⟨_,_,.inr ⟨fun k hk=>h ⟨k,hk⟩,rfl,rfl⟩⟩
theorem wireUnpack_any (s:ByteArray) (m:Msg) (e:Int) (hA:Answers s m e) (w:World) (hm:s.size≤maxLen) (hT:KindTab w) (hK:KeyTab w) :
    Calls Tryz.prog 60 #[.string s] w fun r w'=>r= .returned (.tuple #[.agg m.cells,.int .i64 e])∧Below w.heap.size w w':=by
 rcases hA with ⟨k,h,rfl,rfl⟩|⟨h,rfl,rfl⟩
 ·exact wireUnpack_yes s k w hm h hT hK
 ·exact wireUnpack_no s w hm h
theorem list_eq {a b:ByteArray} (h:(a.toList == b.toList)=true):a.data.toList=b.data.toList:=by
  rw [Lib.toList_data,Lib.toList_data] at h
  exact eq_of_beq h
theorem refUnpack_any (s:ByteArray) (m:Msg) (e:Int) (hA:Answers s m e) (w:World) (hm:s.size≤maxLen) :
    Calls Tryz.prog 31 #[.string s] w fun r w'=>r= .returned (.tuple #[.agg m.cells,.int .i64 e])∧Below w.heap.size w w':=by
 rcases hA with ⟨k,h,rfl,rfl⟩|⟨h,rfl,rfl⟩
 ·have this:=refUnpack_all s k w hm h.le h.len h.hk
  have hg:refGot s (shapeM s k h.le)=soundB (shapeM s k h.le):=by
    cases hS:soundB (shapeM s k h.le) with
    | false=>rw [refGot,hS];rfl
    | true =>
      have e1:(packS (shapeM s k h.le)).toList=s.toList:=by
        rw [Lib.toList_data,Lib.toList_data,packS,hS]
        exact pack_yes s k h
      rw [refGot,hS,e1]
      simp
  have e2:refM s (shapeM s k h.le)=gotM (shapeM s k h.le):=by rw [refM,gotM,hg]
  have e3:refE s (shapeM s k h.le)=packE (shapeM s k h.le):=by rw [refE,packE,hg]
  rw [← e2,← e3]
  exact this
 ·by_cases h20:20≤s.size
  ·obtain ⟨k,hk⟩:∃ k,(s[18]'(by omega)).toNat=k:=⟨_,rfl⟩
   by_cases hl:20+k≤s.size
   ·have this:=refUnpack_all s k w hm (by omega) hl hk
    have hg:refGot s (shapeM s k (by omega))=false:=by
      cases hr:refGot s (shapeM s k (by omega)) with
      | false=>rfl
      | true =>
        rw [refGot,Bool.and_eq_true] at hr
        have hp:=list_eq hr.2
        rw [packS,hr.1] at hp
        exact absurd (shape_of_pack s k (by omega) hl hk hr.1 hp) (h k)
    have e2:refM s (shapeM s k (by omega))=noMsg:=by rw [refM,hg];rfl
    have e3:refE s (shapeM s k (by omega))=9:=by rw [refE,hg];rfl
    rw [← e2,← e3]
    exact this
   ·exact refUnpack_short s k w hm h20 hk (by omega)
  ·exact refUnpack_few s w (by omega)
theorem unpack_any (s:ByteArray) (m:Msg) (e:Int) (hA:Answers s m e) (w:World) (hm:s.size≤maxLen) (hT:KindTab w) (hK:KeyTab w) :
    Calls Tryz.prog 30 #[.string s] w fun r w'=>r= .returned (.tuple #[.agg m.cells,.int .i64 e])∧Below w.heap.size w w':=by
 have HA:=hide hA
 clear hA
 go_enter Tryz.func30,Tryz.ntmps30
 go_wp2_with fail
 refine (wireUnpack_any s m e (uH HA) _ hm (hT.later (below_alloc1' w _)) (hK.later (below_alloc1' w _))).mono ?_
 rintro e w1 ⟨rfl,hb1⟩
 have hb1':=(below_alloc1' w _).trans (hb1.mono (by simp))
 have hZ:w1.heap[w.heap.size]?=some (.cells noMsg.cells 37 (0,0)):=by rw [hb1.block _ (by simp)];exact wHeap_alloc_new' _
 obtain ⟨z0,z1,z2,z3,z4,z5,z6,z7,z8⟩:=MsgAt.of_heap hZ
 have hf:∀ i,w1.frozen? ⟨w.heap.size,i,none⟩=false:=fun i=>frozen_row hZ
 clear hb1 hT hK hZ HA
 simp only [Msg.cells]
 go_wp2
 exact bodyPost_ret (v:= .tuple #[.agg #[.int .i64 m.kind,.int .i64 m.frm,.int .i64 m.to,.string m.key,.int .i64 m.serial,.int .i64 m.version,.int .i64 m.age,.int .i64 m.present,.string m.value],.int .i64 e]) (by simp [results,Tryz.results30,go_sem,z0,z1,z2,z3,z4,z5,z6,z7,z8]) rfl ⟨rfl,(((((((((hb1'.setCell (Nat.le_refl _) _).setCell (Nat.le_refl _) _).setCell (Nat.le_refl _) _).setCell (Nat.le_refl _) _).setCell (Nat.le_refl _) _).setCell (Nat.le_refl _) _).setCell (Nat.le_refl _) _).setCell (Nat.le_refl _) _).setCell (Nat.le_refl _) _)⟩
end
end Go.Proofs.YtpdkojgepagbnaaGreatDoor
