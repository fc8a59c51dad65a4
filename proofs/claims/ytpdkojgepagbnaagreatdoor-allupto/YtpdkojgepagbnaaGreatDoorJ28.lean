/-
  The caller takes its list back; a wrong configuration gives no tier.
-/
import Derived.Test.YtpdkojgepagbnaaGreatDoorJ03
import Derived.Test.YtpdkojgepagbnaaGreatDoorJ27
namespace Go.Proofs.YtpdkojgepagbnaaGreatDoor
set_option maxRecDepth 100000
set_option maxHeartbeats 8000000
section
open Go.RowKit
attribute [local go_sem ↓] Go.wp_at_zero Go.wp_at_succ
theorem back_turn (a:Option Addr) (cap:Nat) (zs:List Int) (dr bu en wa:Int) (w:World) (B:Nat) (hz:zs.length≤17592186044416) (hs:SliceAt w a zs) (hB:w.heap[B]?=some (.cells (lentCells zs) 3 (0,0))) :
    Calls Tryz.prog 11 #[.slice (some ⟨B,0,none⟩) (zs.length+1) (zs.length+1),.agg #[.slice a zs.length cap,.int .i64 dr,.int .i64 bu,.int .i64 en,.int .i64 wa]] w fun e w' =>
      e= .returned (.bool true)∧Turn (fun k=>k=B) w w':=by
 have hBlt:B<w.heap.size:=(Array.getElem?_eq_some_iff.1 hB).1
 have hs1:∀ o,SliceAt (w.alloc o) a zs:=fun o=>hs.below (below_alloc1 w o)
 have hB1:∀ o,Hid ((w.alloc o).heap[B]?=some (.cells (lentCells zs) 3 (0,0))):=fun o=>by show _=_;rw [Below.heap_alloc _ _ _ hBlt];exact hB
 have hlast:∀ o,(w.alloc o).cell? ⟨B,zs.length,none⟩=some (.int .i64 (-77)):=fun o=>cell_of_heap (hB1 o).out (lent_last zs)
 clear hB
 go_enter Tryz.func11,Tryz.ntmps11
 go_wp2
 obtain ⟨w1,hw1⟩:∃ w1,w1=w.alloc (.cells #[.slice a zs.length cap,.int .i64 dr,.int .i64 bu,.int .i64 en,.int .i64 wa] 35):=⟨_,rfl⟩
 have hself:∀ wr,Below w1.heap.size w1 wr→wr.cell? ⟨w.heap.size,0,none⟩=some (.slice a zs.length cap):=fun wr h=>cell_later h (by rw [hw1,World.cell?_alloc_new];rfl)
 have hs2:SliceAt w1 a zs:=by rw [hw1];exact hs1 _
 have hB2:Hid (w1.heap[B]?=some (.cells (lentCells zs) 3 (0,0))):=by rw [hw1];exact hB1 _
 have hbw:Below w.heap.size w w1:=by rw [hw1];exact below_alloc1 _ _
 rw [← hw1]
 clear hs1 hB1 hlast
 have HW:=hide hw1
 clear hw1
 go_loopw [6,7] (fun ok i wr=>∃ r:Nat,r≤zs.length∧i= .int .i64 r∧ok= .bool true∧Below w1.heap.size w1 wr) (fun _ i _=>zs.length - (intOf i).toNat)
 case atStart=>exact ⟨0,Nat.zero_le _,rfl,rfl,Below.refl _ _⟩
 case round =>
   obtain ⟨r,hrn,rfl,rfl,hbr⟩:=hrel
   by_cases hlt:r<zs.length
   ·obtain ⟨b,off,rfl,hr⟩:=hs2 (by omega)
    have hc1:=cell_later hbr (hr r hlt)
    have hc2:=cell_later hbr (cell_of_heap hB2.out (lent_get hlt))
    have hc3:=hself _ hbr
    have hrn1:(r:Int)<(zs.length:Int):=by omega
    have hrn2:(r:Int)<(zs.length:Int)+1:=by omega
    generalize zs.getD r 0=x at *
    go_wp2
    go_quiet (fail)
    go_wp2
    exact ⟨⟨r+1,by omega,by go_num,rfl,below_drewN hbr _⟩,by simp [intOf];omega⟩
   ·have hrow:IntsRow wr B (zs.length+1):=by
      refine ⟨lentCells zs,?_,fun j hj=>?_⟩
      ·rw [hbr.block B (by have:=hbw.size;omega)];exact hB2.out
      ·by_cases e:j=zs.length
       ·exact ⟨_,by rw [e];exact lent_last zs⟩
       ·exact ⟨_,lent_get (by omega)⟩
    have hbB:Turn (fun k=>k=B) w wr:=((Turn.of_below' hbw).trans (Turn.of_below' hbr) (fun _ _ h=>h)).mono (fun _ _ h=>h.elim)
    clear hself hs2 hB2 hbr HW hs
    go_wp2
    go_loopw [8] (fun i wq=>∃ q:Nat,q≤zs.length+1∧i= .int .i64 q∧IntsRow wq B (zs.length+1)∧Turn (fun k=>k=B) w wq) (fun i _=>zs.length+1 - (intOf i).toNat)
    case atStart=>exact ⟨0,Nat.zero_le _,rfl,hrow,hbB⟩
    case round =>
      obtain ⟨q,hqn,rfl,hrq,hbq⟩:=hrel
      by_cases hlt2:q≤zs.length
      ·obtain ⟨⟨v,hcq⟩,hfq⟩:=hrq.at (show q<zs.length+1 by omega)
       have hq1:(q:Int)≤(zs.length:Int):=by omega
       have hq2:(q:Int)<(zs.length:Int)+1:=by omega
       go_wp2
       exact ⟨⟨q+1,by omega,by go_num,hrq.set 0,hbq.sS (Or.inr rfl)⟩,by simp [intOf];omega⟩
      ·go_wp2
       go_ret
       exact ⟨rfl,hbq⟩
theorem New_wrong (a:Option Addr) (cp:Nat) (zs:List Int) (dr bu en wa:Int) (w:World) (hz:zs.length≤maxLen) (hs:SliceAt w a zs) (hc:confB zs dr bu en wa=false) :
    Calls Tryz.prog 10 #[.agg #[.slice a zs.length cp,.int .i64 dr,.int .i64 bu,.int .i64 en,.int .i64 wa]] w fun r w'=>r= .returned (.tuple #[.pointer none,.int .i64 1])∧Turn nO w w':=by
 have KR:=hide (fun w' (h':SliceAt w' a zs)=>right_any a cp zs dr bu en wa w' hz h')
 rw [hc] at KR
 have e1:errOf false=1:=rfl
 rw [e1] at KR
 have HS:=hide hs
 clear hz hs hc e1
 go_enter Tryz.func10,Tryz.ntmps10
 go_wp2_with fail
 generalize hW:World.alloc _ _=W0
 have T0:Turn nO w W0:=by rw [← hW];exact Turn.alloc _ _ _
 have hB0:Below w.heap.size w W0:=by rw [← hW];exact below_alloc1 _ _
 clear hW
 refine (uH KR W0 ((uH HS).below hB0)).mono ?_
 rintro e w1 ⟨rfl,B1⟩
 have T1:=hide (T0.sT (Turn.of_below' B1) (fun _ _ h=>h))
 clear B1 T0 hB0 KR HS
 go_wp2
 exact bodyPost_ret (v:= .tuple #[.pointer none,.int .i64 1]) (by simp [results,Tryz.results10,go_sem]) rfl ⟨rfl,uH T1⟩
end
end Go.Proofs.YtpdkojgepagbnaaGreatDoor
