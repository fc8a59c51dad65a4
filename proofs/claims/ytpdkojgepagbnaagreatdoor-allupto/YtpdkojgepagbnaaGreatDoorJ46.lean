/-
  A whole play: every step is as the document says, and every list reads as its owner left it.
-/
import Derived.Test.YtpdkojgepagbnaaGreatDoorJ45
import Derived.Deep.MidRow
namespace Go.Proofs.YtpdkojgepagbnaaGreatDoor
set_option maxRecDepth 100000
set_option maxHeartbeats 8000000
section
open Go.RowKit Go.Deep
open Tier (Mes Ans Conf St)
attribute [local go_sem ↓] Go.wp_at_zero Go.wp_at_succ
structure OpsAt (w:World) (a:Option Addr) (l:List OpD):Prop where
  at_:∀ j o,l[j]?=some o→∃ b off,a=some ⟨b,off,none⟩∧∀ i v,o.cells.toList[i]?=some v→w.cell? ⟨b,off+j*20+i,none⟩=some v
  ok:∀ o∈l,OpOK w o
def own0 (bw:Nat):Own:=fun k=>if k=bw then some (0,1) else none
theorem law_start (w:World):LawAt (own0 w.heap.size) w (w.alloc (.cells #[.slice none 0 0,.slice none 0 0,.slice none 0 0,.slice none 0 0] 31 (0,0))) w.heap.size 0 ⟨.slice none 0 0,.slice none 0 0,.slice none 0 0,.slice none 0 0,[],[],[]⟩ []:=by
  have hr:∀ {x e m:Nat} (w':World),Row (own0 w.heap.size) 0 x w' e m (.slice none 0 0) []:=fun w'=>⟨World.ownsRow_nil _ _ _ _,fun k hk=>by simp [Value.ownBlock] at hk⟩
  have hl:∀ {x e m:Nat} {X:Nat→List Value} (w':World),Lists (own0 w.heap.size) x w' e m (.slice none 0 0) [] X:=fun w'=>⟨hr w',rfl,fun k u hk=>by cases hk⟩
  refine ⟨fun k hk=>?_,Turn.alloc _ _ _,fun k hk=>?_,new1_0 _ _,?_,hr _,hl _,hl _,hl _,⟨Nat.le_refl _,Nat.le_refl _,Nat.le_refl _,Nat.le_refl _⟩,fun i p hp=>(by cases hp),fun i p hp=>(by cases hp)⟩
  ·unfold own0
   rw [if_neg]
   have:(w.alloc (.cells #[.slice none 0 0,.slice none 0 0,.slice none 0 0,.slice none 0 0] 31 (0,0))).heap.size=w.heap.size+1:=by simp
   omega
  ·unfold own0
   rw [if_neg]
   omega
  ·unfold own0
   rw [if_pos rfl]
theorem cell_conf2 {w:World} (o1:Obj):SliceAt ((w.alloc o1).alloc (.cells #[.int .i64 (-1),.int .i64 0] 3 (0,0))) (some ⟨w.heap.size+1,0,none⟩) [-1,0]:=fun _ =>
  ⟨w.heap.size+1,0,rfl,fun j hj=>by
    rw [Nat.zero_add,cOf (new2_1 w o1 _)]
    match j,hj with
    | 0,_=>rfl
    | 1,_=>rfl⟩
structure PLoop (w0:World) (bw j:Nat) (wr:World):Prop where
  is:∃ own g ps,LawAt own w0 wr bw (5+5*j) g ps
theorem plays_any (a:Option Addr) (cap:Nat) (l:List OpD) (last:Int) (w:World) (hK:KeyTab w) (hD:KindTab w) (hs:OpsAt w a l) (hl:l.length≤150000) (hlast:last≤16) :
    Calls Tryz.prog 5 #[.slice a l.length cap,.int .i64 last] w fun r w'=>r= .returned (.bool true)∧Below w.heap.size w w':=by
 have HK:=hide (And.intro hK hD)
 have HSC:=hide hs
 have HLL:=hide hl
 have HLA:=hide hlast
 clear hK hD hs hl hlast
 obtain ⟨N,hN⟩:∃ N,N=l.length:=⟨_,rfl⟩
 rw [← hN]
 have HN:=hide hN
 clear hN
 have L0:=law_start w
 have HZ:Hid ((w.alloc (.cells #[.slice none 0 0,.slice none 0 0,.slice none 0 0,.slice none 0 0] 31 (0,0))).heap.size=w.heap.size+1):=by show _=_;simp
 have KM:Hid (Calls Tryz.prog 6 #[.pointer (some ⟨w.heap.size,0,none⟩),.agg #[.slice (some ⟨w.heap.size+1,0,none⟩) 2 2,.int .i64 0,.int .i64 5,.int .i64 1,.int .i64 1]] ((w.alloc (.cells #[.slice none 0 0,.slice none 0 0,.slice none 0 0,.slice none 0 0] 31 (0,0))).alloc (.cells #[.int .i64 (-1),.int .i64 0] 3 (0,0))) fun r w'=>r= .returned (.bool true)∧∃ own' g' p,LawAt own' w w' w.heap.size (0+5) g' ([] ++ [p])) :=
   made_right (L0.turn (Turn.alloc _ _ _)) (by decide) (some ⟨w.heap.size+1,0,none⟩) 2 [-1,0] 0 5 1 1 (cell_conf2 _) (by decide)
 clear L0 HZ
 go_enter Tryz.func5,Tryz.ntmps5
 go_wp2_with fail
 refine (uH KM).mono ?_
 rintro e w1 ⟨rfl,own1,g1,p1,L1⟩
 obtain ⟨na,nc,hnv⟩:=rowForm L1.prs
 have d0:w1.cell? ⟨w.heap.size,0,none⟩=some (.slice na 1 nc):=by
   have h1:=cOf L1.block 0
   exact h1.trans (by show some g1.lv=_;rw [hnv];rfl)
 have HR0:Hid (PLoop w w.heap.size 0 w1):=⟨own1,g1,_,L1⟩
 clear L1 hnv KM
 go_wp2
 go_loopw [6,7] (fun ok i wr=>∃ j:Nat,j≤N∧ok= .bool true∧i= .int .i64 (j:Int)∧Hid (PLoop w w.heap.size j wr)) (fun _ i _=>N - (intOf i).toNat)
 case atStart=>exact ⟨0,Nat.zero_le _,rfl,rfl,HR0⟩
 case round =>
   clear HR0 d0
   obtain ⟨j,jn,rfl,rfl,HR⟩:=hrel
   have j0:(0:Int)≤(j:Int):=by omega
   by_cases hj:j<N
   ·have j1:(j:Int)<(N:Int):=by omega
    have hjw:IntKind.i64.wrap ((j:Int)+1)=(j:Int)+1:=by have:=uH HLL;have:=uH HN;rw [IntKind.wrap_i64];omega
    obtain ⟨o,ho⟩:∃ o,l[j]?=some o:=⟨_,List.getElem?_eq_getElem (by have:=uH HN;omega)⟩
    obtain ⟨sb,off,rfl,hc⟩:=(uH HSC).at_ j o ho
    have hok:=hide ((uH HSC).ok o (List.mem_of_getElem? ho))
    obtain ⟨own2,g2,ps2,L2⟩:=(uH HR).is
    have hrg:wr.rangeAt sb (off+j*20) o.cells.toList:=fun i v hv=>L2.out.cell (hc i v hv) id
    have ck:wr.cell? ⟨sb,off+j*20,none⟩=some (.int .i64 o.kind):=hrg 0 _ rfl
    have HRG:=hide hrg
    by_cases hkl:last<o.kind
    ·have HR':Hid (PLoop w w.heap.size (j+1) wr):=⟨own2,g2,ps2,L2.mono (by omega)⟩
     clear L2 hrg hc HR
     go_wp2
     exact ⟨⟨j+1,by omega,rfl,by go_num,HR'⟩,by simp [intOf];omega⟩
    ·have KS:=hide (step_any L2 (by have:=uH HLL;have:=uH HN;omega) (uH HK).1 (uH HK).2 o (uH hok) (by have:=uH HLA;omega))
     clear L2 hrg hc HR
     go_wp2_with (refine wpList_load_mid rfl 39 _ rfl sb (off+j*20) rfl o.cells.toList _ (uH HRG) Tryz.underlying39 rfl (by kernel_rfl) ?_)
     refine (uH KS).mono ?_
     rintro e w2 ⟨rfl,⟨own3,g3,ps3,L3⟩⟩
     have KL:=hide (looks_any L3 (by have:=uH HLL;have:=uH HN;omega))
     have HL3:Hid (∀ w',Turn nO w2 w'→PLoop w w.heap.size (j+1) w'):=fun w' T=>⟨own3,g3,ps3,(L3.turn T).mono (by omega)⟩
     clear L3 KS HRG ck
     go_wp2_with fail
     refine (uH KL).mono ?_
     rintro e w3 ⟨rfl,T3⟩
     have HR':=hide (uH HL3 w3 T3)
     clear T3 KL HL3
     go_wp2
     exact ⟨⟨j+1,by omega,rfl,by go_num,HR'⟩,by simp [intOf];omega⟩
   ·have j2:¬ (j:Int)<(N:Int):=by omega
    obtain ⟨own2,g2,ps2,L2⟩:=(uH HR).is
    have HE:=hide (below_turn L2.out)
    clear L2 HR
    go_wp2
    go_ret
    exact ⟨rfl,uH HE⟩
theorem flows_any (a:Option Addr) (cap:Nat) (l:List OpD) (w:World) (hK:KeyTab w) (hD:KindTab w) (hs:OpsAt w a l) (hl:l.length≤150000) :
    Calls Tryz.prog 3 #[.slice a l.length cap] w fun r w'=>r= .returned (.bool true)∧Below w.heap.size w w':=by
 have KP:=hide (plays_any a cap l 12 w hK hD hs hl (by decide))
 generalize l.length=N at *
 clear hK hD hs hl
 go_enter Tryz.func3,Tryz.ntmps3
 go_wp2_with fail
 refine (uH KP).mono ?_
 rintro e w1 ⟨rfl,B1⟩
 have HB:=hide B1
 clear B1 KP
 go_wp2
 go_ret
 exact ⟨rfl,uH HB⟩
theorem all_any (a:Option Addr) (cap:Nat) (l:List OpD) (w:World) (hK:KeyTab w) (hD:KindTab w) (hs:OpsAt w a l) (hl:l.length≤150000) :
    Calls Tryz.prog 4 #[.slice a l.length cap] w fun r w'=>r= .returned (.bool true)∧Below w.heap.size w w':=by
 have KP:=hide (plays_any a cap l 16 w hK hD hs hl (by decide))
 generalize l.length=N at *
 clear hK hD hs hl
 go_enter Tryz.func4,Tryz.ntmps4
 go_wp2_with fail
 refine (uH KP).mono ?_
 rintro e w1 ⟨rfl,B1⟩
 have HB:=hide B1
 clear B1 KP
 go_wp2
 go_ret
 exact ⟨rfl,uH HB⟩
end
end Go.Proofs.YtpdkojgepagbnaaGreatDoor
