/-
  Where a key stands among those used.
-/
import Derived.Test.YtpdkojgepagbnaaGreatDoorJ09
import Derived.Lib.Strings
namespace Go.Proofs.YtpdkojgepagbnaaGreatDoor
set_option maxRecDepth 100000
set_option maxHeartbeats 8000000
section
open Go.RowKit
open Tier (Mes Ans Conf)
attribute [local go_sem ↓] Go.wp_at_zero Go.wp_at_succ
theorem bytes_same (a b:ByteArray):(a.toList == b.toList)=decide (a=b):=by
  by_cases h:a=b
  ·subst h;simp
  ·have:¬ a.toList=b.toList:=fun e=>h (by
     rw [Lib.toList_data,Lib.toList_data] at e
     obtain ⟨⟨a⟩⟩:=a
     obtain ⟨⟨b⟩⟩:=b
     simp at e
     rw [e])
   simp [h,this]
def placeOf (k:ByteArray):List ByteArray→Nat→Int
  | [],_=>-1
  | x :: r,i=>if k=x then i else placeOf k r (i+1)
theorem placeOf_skip (k:ByteArray):∀ (l:List ByteArray) (i j:Nat),j≤l.length→(∀ m,m<j→l[m]?≠some k)→placeOf k l i=placeOf k (l.drop j) (i+j)
  | l,i,0,_,_=>by simp
  | [],i,j+1,h,_=>by simp at h
  | x :: r,i,j+1,h,hn=>by
    have h0:k≠x:=fun e=>hn 0 (by omega) (by simp [e])
    rw [placeOf,if_neg h0,placeOf_skip k r (i+1) j (by simpa using h) (fun m hm=>by have:=hn (m+1) (by omega);simpa using this)]
    simp
    congr 1
    omega
theorem row_cells {w:World} {a:Option Addr} {n c:Nat} {l:List ByteArray} (h:w.ownsRow 0 9 1 (.slice a n c) (l.map fun k=>[Value.string k]).length (l.map fun k=>[Value.string k]).flatten):n=l.length∧∀ i x,l[i]?=some x→∃ b,a=some ⟨b,0,none⟩∧b<w.heap.size∧w.cell? ⟨b,i,none⟩=some (.string x):=by
  have h':=h
  have hlt:=h.lt
  rw [List.length_map] at h h'
  obtain ⟨hl,⟨hv,h0⟩|⟨b,cap,cur,hv,_⟩⟩:=h
  ·cases hv
   refine ⟨h0.symm,fun i x hx=>?_⟩
   have:=(List.getElem?_eq_some_iff.1 hx).1
   omega
  ·cases hv
   refine ⟨rfl,fun i x hx=>⟨b,rfl,(hlt b rfl).2,?_⟩⟩
   have hi:=(List.getElem?_eq_some_iff.1 hx).1
   rw [h'.cellAt i (by omega)]
   have:=flatten_get (m:=1) (l.map fun k=>[Value.string k]) i 0 [.string x] (by intro y hy;obtain ⟨z,_,rfl⟩:=List.mem_map.1 hy;rfl) (by simp [hx]) (by omega)
   simpa using this
theorem Index_any (a:Option Addr) (n c:Nat) (l:List ByteArray) (k:ByteArray) (w:World) (h:w.ownsRow 0 9 1 (.slice a n c) (l.map fun k=>[Value.string k]).length (l.map fun k=>[Value.string k]).flatten) (hl:l.length≤1000) :
    Calls Tryz.prog 125 #[.slice a n c,.string k] w fun r w'=>r= .returned (.int .i64 (placeOf k l 0))∧w'=w:=by
 obtain ⟨rfl,hc⟩:=row_cells h
 have HC:=hide hc
 clear h hc
 go_enter Tryz.func125,Tryz.ntmps125
 go_wp2
 go_loopw [8] (fun i wr=>∃ j:Nat,j≤l.length∧i= .int .i64 (j:Int)∧wr=w∧Hid (∀ m,m<j→l[m]?≠some k)) (fun i _=>l.length - (intOf i).toNat)
 case atStart=>exact ⟨0,Nat.zero_le _,by simp,rfl,fun m hm=>absurd hm (by omega)⟩
 case round =>
   obtain ⟨j,hj,rfl,rfl,HN⟩:=hrel
   by_cases hlt:j<l.length
   ·obtain ⟨x,hx⟩:∃ x,l[j]?=some x:=⟨_,List.getElem?_eq_getElem hlt⟩
    obtain ⟨b,rfl,hb,hcell⟩:=uH HC j x hx
    have j0:(0:Int)≤(j:Int):=by omega
    have j1:(j:Int)<(l.length:Int):=by omega
    by_cases he:k=x
    ·subst he
     have he':(k.toList == k.toList)=true:=by simp
     go_wp2
     go_ret
     refine ⟨?_,rfl⟩
     rw [placeOf_skip k l 0 j hj (uH HN)]
     have:l.drop j=k :: l.drop (j+1):=by rw [List.drop_eq_getElem_cons hlt];congr 1;exact (List.getElem?_eq_some_iff.1 hx).2
     rw [this,placeOf,if_pos rfl]
     simp
    ·have he':(k.toList == x.toList)=false:=by rw [bytes_same];simpa using he
     go_wp2
     refine ⟨⟨j+1,by omega,by go_num,trivial,fun m hm=>?_⟩,by simp [intOf];omega⟩
     by_cases e:m=j
     ·subst e;rw [hx];exact fun e=>he (Option.some.inj e).symm
     ·exact uH HN m (by omega)
   ·go_wp2
    go_ret
    refine ⟨?_,rfl⟩
    have e:j=l.length:=by omega
    subst e
    rw [placeOf_skip k l 0 l.length (Nat.le_refl _) (uH HN)]
    simp [placeOf]
end
end Go.Proofs.YtpdkojgepagbnaaGreatDoor
