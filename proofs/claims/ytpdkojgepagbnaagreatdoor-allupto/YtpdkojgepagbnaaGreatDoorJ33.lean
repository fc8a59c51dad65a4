/-
  The document's tier: a message is taken out of the net; a fetch is over.
  The document's tier: a fetch is over; answers are taken; a clock; a question; a message is lost or doubled.
  The document's tier: a question, a clock, a crash, a message lost or doubled: whatever they are called with.
  The document's tier: the origin: an item, a change, Write, Remove.
  The document's tier: Write, Remove, Crash, Double: whatever they are called with.
-/
import Derived.Test.YtpdkojgepagbnaaGreatDoorJ32
import Derived.Test.YtpdkojgepagbnaaGreatDoorJ13
import Derived.Test.YtpdkojgepagbnaaGreatDoorJ24
namespace Go.Proofs.YtpdkojgepagbnaaGreatDoor
set_option maxRecDepth 100000
set_option maxHeartbeats 8000000
section
open Go.RowKit
open Tier (Mes Ans Conf St Kept Wtr Ftc Cac)
attribute [local go_sem ↓] Go.wp_at_zero Go.wp_at_succ
variable {own own':Own} {τ:Nat} {w w1 w2 w':World} {br:Nat} {g g':RGh} {t t':St}
theorem wpList_append_run {P:Program} {ops:Array Oper} {rest:List Oper} {o:Oper} {a:Act} {w:World} {Q:Exit→Act→World→Prop} (hgd:o.guard=none) (s x:Operand) (t:TypeId)
    (ho:o.op= .call { callee:= .builtin .append,args:=#[s,x],argTypes:=#[t,t] }) (v1 v2 v:Value) (hs:a.eval s=v1) (hx:a.eval x=v2) (w':World) (hrun:(Builtin.append_ #[t,t] o.type #[v1,v2]).run P w= .ok v w') (h:wpList P ops Q rest (a.put o.dst v) w') :
    wpList P ops Q (o :: rest) a w:=by
 refine wpList_plain hgd fun K' hK'=>?_
 unfold Oper.wp
 simp [execOp,ho,resolve,invoke,builtin,hs,hx,hrun,Result.andThen,Oper.upon]
 exact hK' _ _ h
theorem flatten_piece {size:Nat} {l:List (List Value)} (hs:∀ y∈l,y.length=size) (i:Nat):(l.take i).flatten=l.flatten.take (i*size)∧(l.drop i).flatten=l.flatten.drop (i*size):=by
  induction l generalizing i with
  | nil=>simp
  | cons y r ih =>
    cases i with
    | zero=>simp
    | succ i =>
      have hy:y.length=size:=hs y (by simp)
      obtain ⟨a,b⟩:=ih (fun z hz=>hs z (by simp [hz])) i
      rw [List.take_succ_cons,List.drop_succ_cons,List.flatten_cons,List.flatten_cons,a,b,Nat.succ_mul]
      refine ⟨?_,?_⟩
      ·rw [Nat.add_comm,← hy,List.take_length_add_append]
      ·rw [Nat.add_comm,← hy,List.drop_length_add_append]
section
variable {P:Program} {ty e:TypeId} {ti:TypeInfo} {z:Value} {size bytes:Nat} (ht:P.underlying ty=some (.slice e)) (hi:P.info? e=some ti) (hz:ti.zero=some z) (hsize:ti.size=size) (hby:ti.bytes=bytes) (hzs:z.cells.size=size) (hsz:0<size)
include ht hi hz hsize hby hzs hsz
theorem append_piece {w0:World} {v:Value} {L:List (List Value)} (G:Grow w0 w e size v L) (tt:TypeId) (ad:Addr) (c:Nat) (pieces:List (List Value)) (hp:∀ y∈pieces,y.length=size) (hc:∀ j u,pieces.flatten[j]?=some u→w.cell? (ad.add j)=some u) (hone:∀ y∈pieces,∀ u∈y,u.oneCell'=true)
    (h63:L.length+pieces.length≤maxLen) (hb:(L.length+pieces.length)*bytes≤140737488355328) :
    ∃ v' w',(Builtin.append_ #[ty,ty] tt #[v,.slice (some ad) pieces.length c]).run P w= .ok v' w'∧Grow w0 w' e size v' (L ++ pieces):=by
 have hl:pieces.flatten.length=pieces.length*size:=by
   rw [List.length_flatten]
   clear hc hone h63 hb
   induction pieces with
   | nil=>simp
   | cons y r ih =>
     rw [List.map_cons,List.sum_cons,ih (fun z hz=>hp z (by simp [hz])),hp y (by simp),List.length_cons,Nat.succ_mul]
     omega
 obtain ⟨v',w',hr,h2,h3,_,_⟩:=run_append_own_at (P:=P) w w0.heap.size ty tt e ti z size bytes ht hi hz hsize hby hzs hsz v L.length L.flatten G.row ad pieces.length c pieces.flatten hl hc (fun u hu=>by obtain ⟨y,hy,hyu⟩:=List.mem_flatten.1 hu;exact hone y hy u hyu) h63 hb G.turn.size
 refine ⟨v',w',hr,G.turn.sT (Turn.grown h3) (fun k hk he=>absurd (G.row.lt k he.symm).1 (by omega)),?_⟩
 rw [List.length_append,List.flatten_append]
 exact h2
theorem cut_row {x:Nat} {b c:Nat} {l:List (List Value)} (h:Row own τ x w e size (.slice (some ⟨b,0,none⟩) l.length c) l) (hs:∀ y∈l,y.length=size) (hone:∀ y∈l,∀ u∈y,u.oneCell'=true) {i:Nat} (hil:i<l.length) (hmax:l.length*bytes≤140737488355328) (hmx:l.length≤maxLen) (tt:TypeId) :
    ∃ v1 w1 v2 w2,(Builtin.append_ #[ty,ty] tt #[.slice none 0 0,.slice (some ⟨b,0,none⟩) i c]).run P w= .ok v1 w1∧Turn nO w w1 ∧
      (Builtin.append_ #[ty,ty] tt #[v1,.slice (some ⟨b,if c=i+1 then 0 else (i+1)*size,none⟩) (l.length - (i+1)) (c - (i+1))]).run P w1= .ok v2 w2∧Grow w w2 e size v2 (l.take i ++ l.drop (i+1)):=by
 have hr:=h.row
 have hcell:∀ j,j<l.length*size→w.cell? ⟨b,j,none⟩=l.flatten[j]?:=fun j hj=>hr.cellAt j hj
 have hlen:l.flatten.length=l.length*size:=hr.1
 obtain ⟨_,⟨hv,_⟩|⟨gb,cap,cur,hv,_,hg,hnc,_⟩⟩:=hr
 ·cases hv
 cases hv
 obtain ⟨pt,pd⟩:=flatten_piece hs i
 have pd1:=(flatten_piece hs (i+1)).2
 have li:(l.take i).length=i:=by rw [List.length_take];omega
 have ld:(l.drop (i+1)).length=l.length - (i+1):=List.length_drop
 obtain ⟨v1,w1,r1,G1⟩:=append_piece ht hi hz hsize hby hzs hsz (Grow.nil w e size) tt ⟨b,0,none⟩ c (l.take i) (fun y hy=>hs y (List.mem_of_mem_take hy)) (fun j u hu=>by
   rw [pt] at hu
   have hj:=(List.getElem?_eq_some_iff.1 hu).1
   rw [List.length_take,hlen] at hj
   rw [show (⟨b,0,none⟩:Addr).add j=⟨b,j,none⟩ by unfold Addr.add;(first|(simp;exact fun h=>h.symm)|simp),hcell j (by omega)]
   rw [List.getElem?_take_of_lt (by omega)] at hu
   exact hu) (fun y hy=>hone y (List.mem_of_mem_take hy)) (by rw [li];show 0+i≤_;omega) (by rw [li];exact Nat.le_trans (Nat.mul_le_mul_right _ (by show 0+i≤_;omega)) hmax)
 rw [li] at r1
 have hso:∀ j,j<(l.drop (i+1)).flatten.length→(⟨b,if c=i+1 then 0 else (i+1)*size,none⟩:Addr).add j=⟨b,(i+1)*size+j,none⟩:=fun j hj=>by
   rw [pd1,List.length_drop,hlen] at hj
   have:c≠i+1:=fun e=>by
     have h1:l.length≤i+1:=by omega
     have h2:=Nat.mul_le_mul_right size h1
     omega
   rw [if_neg this]
   unfold Addr.add
   simp
 obtain ⟨v2,w2,r2,G2⟩:=append_piece ht hi hz hsize hby hzs hsz G1 tt ⟨b,if c=i+1 then 0 else (i+1)*size,none⟩ (c - (i+1)) (l.drop (i+1)) (fun y hy=>hs y (List.mem_of_mem_drop hy)) (fun j u hu=>by
   have hj:=(List.getElem?_eq_some_iff.1 hu).1
   rw [hso j hj]
   rw [pd1,List.length_drop,hlen] at hj
   rw [pd1,List.getElem?_drop] at hu
   exact G1.turn.cell (by rw [hcell _ (by omega)];exact hu) id) (fun y hy=>hone y (List.mem_of_mem_drop hy)) (by rw [ld,List.nil_append,li];omega) (by rw [ld,List.nil_append,li];exact Nat.le_trans (Nat.mul_le_mul_right _ (by omega)) hmax)
 rw [ld] at r2
 exact ⟨v1,w1,v2,w2,r1,G1.turn,r2,by rw [List.nil_append] at G2;exact G2⟩
end
theorem RLeaves.out {w3:World} {b:Nat} (R:RLeaves own τ w1 br t w2) (T0:Turn nO w w1) (hb:w.heap.size≤b) (hb1:b<w1.heap.size) (ho:own b=none) (T:Turn (fun k=>k=b) w2 w3):RLeaves own τ w br t w3:=by
  obtain ⟨o,g',R,S⟩:=R.is
  have hob:o b=none:=S.free hb1 ho
  refine ⟨o,g',R.frame (fun k hk ⟨x,hx⟩=>⟨T.block k hk (fun e=>by rw [e,hob] at hx;cases hx),rfl⟩) (fun k hk=>R.top k (Nat.le_trans T.size hk)),⟨((T0.mono (fun _ _ h=>h.elim)).sT S.turn (fun _ _ h=>h)).sT T (fun k hk e=>by omega),fun k hk=>S.same k (Nat.lt_of_lt_of_le hk T0.size)⟩⟩
theorem RLies.putNet (h:RLies own τ w br g t) {v:Value} {l:List Mes} (G:Grow w w1 37 9 v (l.map mesL)):RLeaves own τ w br { t with net:=l } (w1.setCell ⟨br,7,none⟩ v):=by
  have T:=G.turn
  have hO:=G.row
  have hold:∀ k,k<w.heap.size→putV own v (τ,5) k=own k:=fun k hk=>putV_old hO hk
  have hbr:∀ k,v.ownBlock=some k→k≠br:=fun k hk e=>by have:=(hO.lt k hk).1;have:=h.lt;omega
  have T2:Turn (fun k=>∃ x,(x=1∨x=5)∧own k=some (τ,x)) w (w1.setCell ⟨br,7,none⟩ v):=(T.mono (fun _ _ h=>h.elim)).sS (Or.inr ⟨1,Or.inl rfl,h.blockO⟩)
  have F:Fr (fun x=>x=1∨x=5) own (putV own v (τ,5)) τ w (w1.setCell ⟨br,7,none⟩ v):=fr_of T2 (fun k hk _ _ _=>hold k hk)
  have h1:w1.heap[br]?=some (.cells (refC g t) 83 (0,0)):=(T.block br h.lt id).trans h.block
  refine ⟨putV own v (τ,5),{ g with nv:=v },h.next _ F (putV_top hO (by simp) h.top T.size) (by omega) rfl rfl rfl (by rw [heap_set h1];rfl) (by rw [hold br h.lt];exact h.blockO) (Or.inl ⟨by omega,rfl,rfl⟩) ((h.cacs.heap (F.keep _ h.cacs.lt 4 (by omega) h.cacsO).1).like rfl (fun _=>rfl)) (by rw [hold g.bc h.cacs.lt];exact h.cacsO) (Or.inr (row_fresh hO (fun k hk=>hSO (hbr k hk)))) (Or.inl ⟨by omega,rfl,rfl⟩) (fun n _=>Or.inl ⟨by omega,rfl,rfl⟩) (fun n _=>Or.inl ⟨by omega,rfl,rfl⟩) (fun n _ f hf=>Or.inl ⟨by omega,rfl,f,hf,rfl,rfl⟩),step_of T2 (fun k hk=>Or.inl (hold k hk))⟩
theorem RLies.putItems (h:RLies own τ w br g t) {v:Value} {l:List Tier.Item} (G:Grow w w1 136 4 v (l.map itemL)):RLeaves own τ w br { t with items:=l } (w1.setCell ⟨br,5,none⟩ v):=by
  have T:=G.turn
  have hO:=G.row
  have hold:∀ k,k<w.heap.size→putV own v (τ,3) k=own k:=fun k hk=>putV_old hO hk
  have hbr:∀ k,v.ownBlock=some k→k≠br:=fun k hk e=>by have:=(hO.lt k hk).1;have:=h.lt;omega
  have T2:Turn (fun k=>∃ x,(x=1∨x=3)∧own k=some (τ,x)) w (w1.setCell ⟨br,5,none⟩ v):=(T.mono (fun _ _ h=>h.elim)).sS (Or.inr ⟨1,Or.inl rfl,h.blockO⟩)
  have F:Fr (fun x=>x=1∨x=3) own (putV own v (τ,3)) τ w (w1.setCell ⟨br,5,none⟩ v):=fr_of T2 (fun k hk _ _ _=>hold k hk)
  have h1:w1.heap[br]?=some (.cells (refC g t) 83 (0,0)):=(T.block br h.lt id).trans h.block
  refine ⟨putV own v (τ,3),{ g with iv:=v },h.next _ F (putV_top hO (by simp) h.top T.size) (by omega) rfl rfl rfl (by rw [heap_set h1];rfl) (by rw [hold br h.lt];exact h.blockO) (Or.inr (row_fresh hO (fun k hk=>hSO (hbr k hk)))) ((h.cacs.heap (F.keep _ h.cacs.lt 4 (by omega) h.cacsO).1).like rfl (fun _=>rfl)) (by rw [hold g.bc h.cacs.lt];exact h.cacsO) (Or.inl ⟨by omega,rfl,rfl⟩) (Or.inl ⟨by omega,rfl,rfl⟩) (fun n _=>Or.inl ⟨by omega,rfl,rfl⟩) (fun n _=>Or.inl ⟨by omega,rfl,rfl⟩) (fun n _ f hf=>Or.inl ⟨by omega,rfl,f,hf,rfl,rfl⟩),step_of T2 (fun k hk=>Or.inl (hold k hk))⟩
theorem mesL_len (l:List Mes):∀ y∈l.map mesL,y.length=9:=by intro y hy;obtain ⟨z,_,rfl⟩:=List.mem_map.1 hy;rfl
theorem mesL_one (l:List Mes):∀ y∈l.map mesL,∀ u∈y,u.oneCell'=true:=by intro y hy u hu;obtain ⟨z,_,rfl⟩:=List.mem_map.1 hy;simp [mesL] at hu;rcases hu with h|h|h|h|h|h|h|h|h <;> subst h <;> rfl
theorem ftcL_one {lv:Int→Value} {l:List Ftc} (hl:∀ f∈l,(lv f.serial).oneCell'=true):∀ y∈l.map (ftcL lv),∀ u∈y,u.oneCell'=true:=by intro y hy u hu;obtain ⟨z,hz,rfl⟩:=List.mem_map.1 hy;simp [ftcL] at hu;rcases hu with h|h|h|h <;> subst h <;> first|rfl|exact hl z hz
theorem rtaken_any (h:RLies own τ w br g t) {i:Nat} {m:Mes} (hm:t.net[i]?=some m) (hl:t.net.length≤1000000000000) :
    Calls Tryz.prog 81 #[.pointer (some ⟨br,0,none⟩),.int .i64 (i:Int)] w fun r w'=>r= .returned (mesV m)∧RLeaves own τ w br (t.taken i) w':=by
 obtain ⟨mi,mhi,mz0,mz1,mz2⟩:=info_parts infoMes
 obtain ⟨nb,nc,hnv,hno,_,hnc,_⟩:=rowAt h.net (fun _=>rfl) hm
 have hil:i<t.net.length:=(List.getElem?_eq_some_iff.1 hm).1
 have HH:=hide h
 have d7:w.cell? ⟨br,7,none⟩=some (.slice (some ⟨nb,0,none⟩) t.net.length nc):=by rw [← hnv];exact cOf h.block 7
 have f7:w.frozen? ⟨br,7,none⟩=false:=fOf h.block 7
 obtain ⟨c0,c1,c2,c3,c4,c5,c6,c7,c8⟩:=rC9 hnc
 have i0:(0:Int)≤(i:Int):=by omega
 have i1:(i:Int)<(t.net.length:Int):=by omega
 have i2:(i:Int)≤(t.net.length:Int):=by omega
 have hcap:t.net.length≤nc:=by
   have hr:=h.net.row
   rw [hnv,List.length_map] at hr
   obtain ⟨_,⟨hv,_⟩|⟨gb,cap,cur,hv,_,_,hnc2,_⟩⟩:=hr
   ·cases hv
   ·cases hv;exact hnc2
 have hs1:=sl_hi (P:=Tryz.prog) (t:=59) Tryz.underlying59 mhi nb t.net.length nc i (by omega)
 have hs2:=sl_lo (P:=Tryz.prog) (t:=59) Tryz.underlying59 mhi mz1 nb t.net.length nc (i+1) (by omega)
 rw [show ((i+1:Nat):Int)=(i:Int)+1 by omega] at hs2
 have hiw:IntKind.i64.wrap ((i:Int)+1)=(i:Int)+1:=by rw [IntKind.wrap_i64];omega
 have HCUT:Hid (∀ W,Turn nO w W→∃ v1 w1 v2 w2,(Builtin.append_ #[59,59] 59 #[.slice none 0 0,.slice (some ⟨nb,0,none⟩) i nc]).run Tryz.prog W= .ok v1 w1∧Turn nO W w1 ∧
     (Builtin.append_ #[59,59] 59 #[v1,.slice (some ⟨nb,if nc=i+1 then 0 else (i+1)*9,none⟩) (t.net.length - (i+1)) (nc - (i+1))]).run Tryz.prog w1= .ok v2 w2∧Turn nO W w2∧(∃ a n c,v2= .slice a n c)∧RLeaves own τ W br (t.taken i) (w2.setCell ⟨br,7,none⟩ v2)):=fun W T=>by
  have hR:=(uH HH).turn T
  have hrow:Row own τ 5 W 37 9 (.slice (some ⟨nb,0,none⟩) (t.net.map mesL).length nc) (t.net.map mesL):=by rw [List.length_map,← hnv];exact hR.net
  obtain ⟨v1,w1,v2,w2,r1,T1,r2,G⟩:=cut_row Tryz.underlying59 mhi mz0 mz1 mz2 rfl (by omega) hrow (mesL_len _) (mesL_one _) (i:=i) (by rw [List.length_map];exact hil) (by rw [List.length_map];omega) (by rw [List.length_map];unfold maxLen;omega) 59
  rw [List.length_map] at r2
  refine ⟨v1,w1,v2,w2,r1,T1,r2,G.turn,(by obtain ⟨a,c,hv⟩:=row_form G.row;exact ⟨a,_,c,hv⟩),?_⟩
  rw [← List.map_take,← List.map_drop,← List.map_append] at G
  exact hR.putNet G
 generalize t.taken i=tk at *
 generalize t.net.length=nl at *
 have hbr:=h.lt
 have hnbw:nb<w.heap.size:=cell_lt c0
 clear h hnv hnc hm
 obtain ⟨kind,frm,to_,key,serial,ver,age,pres,val⟩:=m
 unfold mesV mesL
 dsimp only at *
 go_enter Tryz.func81,Tryz.ntmps81
 go_upto_region 3 with fail
 generalize hW:World.alloc _ _=W0
 have T0:Turn nO w W0:=by rw [← hW];exact (Turn.alloc _ _ _).sA
 have hsz:W0.heap.size=w.heap.size+1+1:=by rw [← hW];simp
 have x0:W0.cell? ⟨w.heap.size+1,0,none⟩=some (.int .i64 kind):=by rw [← hW];exact cOf (new2_1 w _ _) 0
 have x1:W0.cell? ⟨w.heap.size+1,1,none⟩=some (.int .i64 frm):=by rw [← hW];exact cOf (new2_1 w _ _) 1
 have x2:W0.cell? ⟨w.heap.size+1,2,none⟩=some (.int .i64 to_):=by rw [← hW];exact cOf (new2_1 w _ _) 2
 have x3:W0.cell? ⟨w.heap.size+1,3,none⟩=some (.string key):=by rw [← hW];exact cOf (new2_1 w _ _) 3
 have x4:W0.cell? ⟨w.heap.size+1,4,none⟩=some (.int .i64 serial):=by rw [← hW];exact cOf (new2_1 w _ _) 4
 have x5:W0.cell? ⟨w.heap.size+1,5,none⟩=some (.int .i64 ver):=by rw [← hW];exact cOf (new2_1 w _ _) 5
 have x6:W0.cell? ⟨w.heap.size+1,6,none⟩=some (.int .i64 age):=by rw [← hW];exact cOf (new2_1 w _ _) 6
 have x7:W0.cell? ⟨w.heap.size+1,7,none⟩=some (.int .i64 pres):=by rw [← hW];exact cOf (new2_1 w _ _) 7
 have x8:W0.cell? ⟨w.heap.size+1,8,none⟩=some (.string val):=by rw [← hW];exact cOf (new2_1 w _ _) 8
 have TH0:There W0 w.heap.size 9:=by rw [← hW];exact There.of_cells (new2_0 w _ _) (by simp)
 have f7:=T0.froz d7 id f7
 have d7:=T0.cell d7 id
 obtain ⟨v1,w1,v2,w2,r1,T1,r2,T2,⟨va,vn,vc,rfl⟩,R⟩:=uH HCUT W0 T0
 have HRR:=hide R
 have HT0:=hide T0
 have HT2:=hide T2
 have HTH:=hide TH0
 have d71:=T1.cell d7 id
 have f72:=T2.froz d7 id f7
 have d72:=T2.cell d7 id
 have x0:=T2.cell x0 id
 have x1:=T2.cell x1 id
 have x2:=T2.cell x2 id
 have x3:=T2.cell x3 id
 have x4:=T2.cell x4 id
 have x5:=T2.cell x5 id
 have x6:=T2.cell x6 id
 have x7:=T2.cell x7 id
 have x8:=T2.cell x8 id
 have TH2:=TH0.turn T2 id
 have z0:=peek_some (TH2.are 0 (by omega))
 have y0:=TH2.free 0
 have z1:=peek_some (TH2.are 1 (by omega))
 have y1:=TH2.free 1
 have z2:=peek_some (TH2.are 2 (by omega))
 have y2:=TH2.free 2
 have z3:=peek_some (TH2.are 3 (by omega))
 have y3:=TH2.free 3
 have z4:=peek_some (TH2.are 4 (by omega))
 have y4:=TH2.free 4
 have z5:=peek_some (TH2.are 5 (by omega))
 have y5:=TH2.free 5
 have z6:=peek_some (TH2.are 6 (by omega))
 have y6:=TH2.free 6
 have z7:=peek_some (TH2.are 7 (by omega))
 have y7:=TH2.free 7
 have z8:=peek_some (TH2.are 8 (by omega))
 have y8:=TH2.free 8
 have hne0:br≠w.heap.size:=by omega
 have hne1:br≠w.heap.size+1:=by omega
 have hw2:w.heap.size+1<w2.heap.size:=by have:=T2.size;omega
 generalize hso:(if nc=i+1 then 0 else (i+1)*9)=so at *
 have HTOP:Hid (own w.heap.size=none):=(uH HH).top _ (Nat.le_refl _)
 clear hW T0 T1 T2 TH0 TH2 R hso c0 c1 c2 c3 c4 c5 c6 c7 c8 HCUT
 go_wp2_with (at_builtin;first|(refine wpList_append_run (by rfl) _ _ _ (by rfl) _ _ _ (by rfl) (by rfl) _ r1 ?_)|(refine wpList_append_run (by rfl) _ _ _ (by rfl) _ _ _ (by rfl) (by rfl) _ r2 ?_))
 exact bodyPost_ret (v:= .agg #[.int .i64 kind,.int .i64 frm,.int .i64 to_,.string key,.int .i64 serial,.int .i64 ver,.int .i64 age,.int .i64 pres,.string val]) (by simp [results,Tryz.results81,go_sem,z0,z1,z2,z3,z4,z5,z6,z7,z8]) rfl ⟨rfl,(uH HRR).out (uH HT0) (Nat.le_refl _) (by omega) (uH HTOP) (by (repeat (first|(with_reducible first|assumption|exact Turn.refl _ _|apply Turn.sA|apply Turn.sD|refine tN ?_ (by assumption))|((with_reducible refine Turn.sS ?_ ?_);rotate_left;· first|exact Or.inr rfl|exact Or.inr (Or.inl rfl)|exact Or.inl (by simp <;> omega))|(with_reducible refine tG ?_ (by assumption))|(with_reducible first|apply There.drew|apply There.set|refine hNo ?_ (by assumption))|assumption)))⟩
end
section
open Go.RowKit
open Tier (Mes Ans Conf St Kept Wtr Ftc Cac)
attribute [local go_sem ↓] Go.wp_at_zero Go.wp_at_succ
variable {own own':Own} {τ:Nat} {w w1 w2 w':World} {br:Nat} {g g':RGh} {t t':St}
theorem filter_cut {l:List Ftc} {i:Nat} {f:Ftc} {k:ByteArray} (hf:l[i]?=some f) (hu:∀ f'∈l,f'.key=k ↔ f'=f) (ha:l.Pairwise fun a b=>a.serial≠b.serial):l.take i ++ l.drop (i+1)=l.filter (fun f=>decide (f.key≠k)):=by
  obtain ⟨hlt,hx⟩:=List.getElem?_eq_some_iff.1 hf
  have e:l=l.take i ++ f :: l.drop (i+1):=by rw [← hx,List.getElem_cons_drop,List.take_append_drop]
  have h1:(l.take i).filter (fun f=>decide (f.key≠k))=l.take i:=List.filter_eq_self.2 (fun x hx=>by
    obtain ⟨j,hj,hxj⟩:=List.getElem_of_mem hx
    rw [List.length_take] at hj
    have hxl:l[j]?=some x:=by rw [List.getElem_take] at hxj;rw [List.getElem?_eq_getElem (by omega),hxj]
    refine decide_eq_true (fun hk=>?_)
    have:=(hu x (List.mem_of_getElem? hxl)).1 hk
    have:=pair_ne ha hxl hf (by rw [this])
    omega)
  have h2:(l.drop (i+1)).filter (fun f=>decide (f.key≠k))=l.drop (i+1):=List.filter_eq_self.2 (fun x hx=>by
    obtain ⟨j,hj,hxj⟩:=List.getElem_of_mem hx
    rw [List.length_drop] at hj
    have hxl:l[i+1+j]?=some x:=by rw [List.getElem_drop] at hxj;rw [List.getElem?_eq_getElem (by omega),hxj]
    refine decide_eq_true (fun hk=>?_)
    have:=(hu x (List.mem_of_getElem? hxl)).1 hk
    have:=pair_ne ha hxl hf (by rw [this])
    omega)
  conv=>rhs;rw [e]
  rw [List.filter_append,h1,List.filter_cons_of_neg (by have:=(hu f (List.mem_of_getElem? hf)).2 rfl;simp [this]),h2]
structure ROver (own:Own) (τ:Nat) (w:World) (br:Nat) (t:St) (l:List Wtr) (v:Value) (w':World):Prop where
  is:∃ own' g',RLies own' τ w' br g' t∧Step τ own own' w w'∧Row own' τ 7 w' 149 4 v (l.map wtrL)
theorem rover_any (h:RLies own τ w br g t) (hfi:FFine t) {n:Nat} (hn:n<t.caches.length) {i:Nat} {f:Ftc} {k:ByteArray} (hf:(t.cac n).fts[i]?=some f) (hu:∀ f'∈(t.cac n).fts,f'.key=k ↔ f'=f) (hl:(t.cac n).fts.length≤1000000) :
    Calls Tryz.prog 86 #[.pointer (some ⟨br,0,none⟩),.int .i64 (n:Int),.int .i64 (i:Int)] w fun r w'=>∃ a c,r= .returned (.slice a f.l.length c)∧ROver own τ w br (t.over n k) f.l (.slice a f.l.length c) w':=by
 obtain ⟨fi,fhi,fz0,fz1,fz2⟩:=info_parts infoFetch
 obtain ⟨fb,fc,hfv,hfo,_,hfc,_⟩:=rowAt (h.fts n hn) (fun _=>rfl) hf
 have hfm:=List.mem_of_getElem? hf
 obtain ⟨la,lc,hlv⟩:=rowForm (h.waits n hn f hfm)
 have hil:i<(t.cac n).fts.length:=(List.getElem?_eq_some_iff.1 hf).1
 have HH:=hide h
 have d6:w.cell? ⟨br,6,none⟩=some (.slice (some ⟨g.bc,0,none⟩) t.caches.length t.caches.length):=cOf h.block 6
 obtain ⟨_,_,k2,kf⟩:=h.cacs.at_ hn
 rw [hfv] at k2
 have kf:=kf (n*3+2)
 have c3:w.cell? ⟨fb,i*4+3,none⟩=some (.slice la f.l.length lc):=by rw [← hlv];exact hfc 3 (by omega)
 have n0:(0:Int)≤(n:Int):=by omega
 have n1:(n:Int)<(t.caches.length:Int):=by omega
 have i0:(0:Int)≤(i:Int):=by omega
 have i1:(i:Int)<((t.cac n).fts.length:Int):=by omega
 have i2:(i:Int)≤((t.cac n).fts.length:Int):=by omega
 have hcap:(t.cac n).fts.length≤fc:=by
   have hr:=(h.fts n hn).row
   rw [hfv,List.length_map] at hr
   obtain ⟨_,⟨hv,_⟩|⟨gb,cap,cur,hv,_,_,hnc2,_⟩⟩:=hr
   ·cases hv
   ·cases hv;exact hnc2
 have hs1:=sl_hi (P:=Tryz.prog) (t:=131) Tryz.underlying131 fhi fb (t.cac n).fts.length fc i (by omega)
 have hs2:=sl_lo (P:=Tryz.prog) (t:=131) Tryz.underlying131 fhi fz1 fb (t.cac n).fts.length fc (i+1) (by omega)
 rw [show ((i+1:Nat):Int)=(i:Int)+1 by omega] at hs2
 have hiw:IntKind.i64.wrap ((i:Int)+1)=(i:Int)+1:=by rw [IntKind.wrap_i64];omega
 have HCUT:∃ v1 w1 v2 w2,(Builtin.append_ #[131,131] 131 #[.slice none 0 0,.slice (some ⟨fb,0,none⟩) i fc]).run Tryz.prog w= .ok v1 w1∧Turn nO w w1 ∧
     (Builtin.append_ #[131,131] 131 #[v1,.slice (some ⟨fb,if fc=i+1 then 0 else (i+1)*4,none⟩) ((t.cac n).fts.length - (i+1)) (fc - (i+1))]).run Tryz.prog w1= .ok v2 w2∧Turn nO w w2∧(∃ a n c,v2= .slice a n c)∧ROver own τ w br (t.over n k) f.l (.slice la f.l.length lc) (w2.setCell ⟨g.bc,n*3+2,none⟩ v2):=by
  have hrow:Row own τ (20+n) w 176 4 (.slice (some ⟨fb,0,none⟩) ((t.cac n).fts.map (ftcL g.lv)).length fc) ((t.cac n).fts.map (ftcL g.lv)):=by rw [List.length_map,← hfv];exact h.fts n hn
  obtain ⟨v1,w1,v2,w2,r1,T1,r2,G⟩:=cut_row Tryz.underlying131 fhi fz0 fz1 fz2 rfl (by omega) hrow (ftcL_len _ _) (ftcL_one (fun f' hf'=>by obtain ⟨a,c,e⟩:=rowForm (h.waits n hn f' hf');rw [e];rfl)) (i:=i) (by rw [List.length_map];exact hil) (by rw [List.length_map];omega) (by rw [List.length_map];unfold maxLen;omega) 131
  rw [List.length_map] at r2
  refine ⟨v1,w1,v2,w2,r1,T1,r2,G.turn,(by obtain ⟨a,c,hv⟩:=row_form G.row;exact ⟨a,_,c,hv⟩),?_⟩
  rw [← List.map_take,← List.map_drop,← List.map_append,filter_cut hf hu (hfi.once n hn)] at G
  obtain ⟨o,g',R,S,V⟩:=h.ended hfi hn hfm hu G
  rw [hlv] at V
  exact ⟨o,g',R,S,V⟩
 obtain ⟨v1,w1,v2,w2,r1,T1,r2,T2,⟨va,vn,vc,rfl⟩,R⟩:=HCUT
 have HR:=hide R
 have k21:=T1.cell k2 id
 have kf2:=T2.froz k2 id kf
 have k22:=T2.cell k2 id
 generalize hso:(if fc=i+1 then 0 else (i+1)*4)=so at *
 generalize (t.cac n).fts.length=nl at *
 generalize t.caches.length=m at *
 clear h hfv hfc hf R T1 T2 hso hu hfm
 go_enter Tryz.func86,Tryz.ntmps86
 go_wp2_with (at_builtin;first|(refine wpList_append_run (by rfl) _ _ _ (by rfl) _ _ _ (by rfl) (by rfl) _ r1 ?_)|(refine wpList_append_run (by rfl) _ _ _ (by rfl) _ _ _ (by rfl) (by rfl) _ r2 ?_))
 go_ret
 exact ⟨la,lc,rfl,uH HR⟩
theorem RLies.told (h:RLies own τ w br g t):∃ own',RLies own' τ (w.setCell ⟨br,8,none⟩ (.slice none 0 0)) br { g with av:= .slice none 0 0 } { t with answers:=[] }∧Step τ own own' w (w.setCell ⟨br,8,none⟩ (.slice none 0 0))∧Loose own' (w.setCell ⟨br,8,none⟩ (.slice none 0 0)) 63 7 g.av (t.answers.map ansL):=by
  have h6:=h.few
  have hd:∀ q x,own q=some (τ,x)→x≠6→dropO own (τ,6) q=own q:=fun q x ho hx=>by
    unfold dropO
    rw [if_neg (fun c=>hx (lab_ne ho c))]
  have T:Turn (fun k=>∃ x,x=1∧own k=some (τ,x)) w (w.setCell ⟨br,8,none⟩ (.slice none 0 0)):=(Turn.refl _ _).sS (Or.inr ⟨1,rfl,h.blockO⟩)
  have F:Fr (fun x=>x=1∨x=6) own (dropO own (τ,6)) τ w (w.setCell ⟨br,8,none⟩ (.slice none 0 0)) :=
    ⟨fun q hq x hx ho=>⟨T.block q hq (fun ⟨y,hy,hyo⟩=>hx (Or.inl ((lab_ne ho hyo).trans hy))),hd q x ho (fun e=>hx (Or.inr e))⟩⟩
  refine ⟨dropO own (τ,6),h.next _ F (fun q hq=>by unfold dropO;rw [h.top q (by simpa using hq)];rfl) (by omega) rfl rfl rfl (by rw [heap_set h.block];rfl) (by rw [hd br 1 h.blockO (by omega)];exact h.blockO) (Or.inl ⟨by omega,rfl,rfl⟩) ((h.cacs.heap (F.keep _ h.cacs.lt 4 (by omega) h.cacsO).1).like rfl (fun _=>rfl)) (by rw [hd g.bc 4 h.cacsO (by omega)];exact h.cacsO) (Or.inl ⟨by omega,rfl,rfl⟩) (Or.inr ⟨World.ownsRow_nil _ _ _ _,fun k hk=>by cases hk⟩) (fun n _=>Or.inl ⟨by omega,rfl,rfl⟩) (fun n _=>Or.inl ⟨by omega,rfl,rfl⟩) (fun n _ f hf=>Or.inl ⟨by omega,rfl,f,hf,rfl,rfl⟩),⟨T.mono (fun q _ ⟨x,_,hx⟩=>⟨x,hx⟩),fun q _=>?_⟩,?_⟩
  ·by_cases e:own q=some (τ,6)
   ·exact Or.inr ⟨⟨6,e⟩,Or.inl (by unfold dropO;rw [if_pos e])⟩
   ·exact Or.inl (by unfold dropO;rw [if_neg e])
  ·have hw:=h.ans
   have hlt:=hw.row.lt
   obtain ⟨⟨hl,hv⟩,hm⟩:=hw
   refine ⟨⟨hl,?_⟩,fun q hq=>by unfold dropO;rw [if_pos (hm q hq)]⟩
   rcases hv with hv|⟨gb,cap,cur,hv,hb,hg,r⟩
   ·exact Or.inl hv
   ·exact Or.inr ⟨gb,cap,cur,hv,hb,(hSO (fun e=>by have h1:=hm gb (by rw [hv];rfl);rw [show gb=br from e] at h1;have:=lab_ne h.blockO h1;omega)).trans hg,r⟩
theorem rTold_any (h:RLies own τ w br g t):Calls Tryz.prog 34 #[.pointer (some ⟨br,0,none⟩)] w fun r w'=>∃ v,r= .returned v∧∃ own' g',RLies own' τ w' br g' { t with answers:=[] }∧Step τ own own' w w'∧Loose own' w' 63 7 v (t.answers.map ansL):=by
  obtain ⟨va,vc,hv⟩:=rowForm h.ans
  have d8:w.cell? ⟨br,8,none⟩=some (.slice va t.answers.length vc):=by rw [← hv];exact cOf h.block 8
  have f8:w.frozen? ⟨br,8,none⟩=false:=fOf h.block 8
  obtain ⟨o,R,S,L⟩:=h.told
  have HE:Hid (∃ own' g',RLies own' τ (w.setCell ⟨br,8,none⟩ (.slice none 0 0)) br g' { t with answers:=[] }∧Step τ own own' w (w.setCell ⟨br,8,none⟩ (.slice none 0 0))∧Loose own' (w.setCell ⟨br,8,none⟩ (.slice none 0 0)) 63 7 (.slice va t.answers.length vc) (t.answers.map ansL)):=⟨o,_,R,S,by rw [← hv];exact L⟩
  clear h R S L hv
  go_enter Tryz.func34,Tryz.ntmps34
  go_wp2
  go_ret
  exact ⟨_,rfl,uH HE⟩
def cacheB (t:St) (n:Int):Bool:=decide (1≤n) && decide (n<(t.caches.length:Int))
theorem cacheB_nat {n:Int} (h:cacheB t n=true):∃ m:Nat,n=(m:Int)∧0<m∧m<t.caches.length:=by
  unfold cacheB at h
  rw [Bool.and_eq_true,decide_eq_true_eq,decide_eq_true_eq] at h
  exact ⟨n.toNat,by omega,by omega,by omega⟩
def askE (t:St) (n:Int) (k:ByteArray):Int:=if cacheB t n=false then 2 else if keyB k=false then 3 else 0
def askS (t:St) (n id:Int) (k:ByteArray):St:=if askE t n k=0 then t.wants n.toNat k ⟨-1,id,0,0⟩ else t
theorem RLies.stays (h:RLies own τ w br g t):RLeaves own τ w br t w:=⟨own,g,h,Step.refl _ _ _⟩
theorem rAsk_any (h:RLies own τ w br g t) (n id:Int) (k:ByteArray) (hk:k.size≤maxLen) (hf:∀ m:Nat,0<m→m<t.caches.length→WFine t m) :
    Calls Tryz.prog 44 #[.pointer (some ⟨br,0,none⟩),.int .i64 n,.int .i64 id,.string k] w fun r w'=>r= .returned (.int .i64 (askE t n k))∧RLeaves own τ w br (askS t n id k) w':=by
 have KC:=hide (rcache_any h n)
 have HH:=hide h.stays
 cases hc:cacheB t n with
 | false =>
   have e1:askE t n k=2:=by unfold askE;rw [hc];rfl
   have e2:askS t n id k=t:=by unfold askS;rw [e1];rfl
   rw [e1,e2]
   rw [show (decide (1≤n) && decide (n<(t.caches.length:Int)))=false from hc] at KC
   clear h e1 e2 hc
   go_enter Tryz.func44,Tryz.ntmps44
   go_wp2_with fail
   refine (uH KC).mono ?_
   rintro e w1 ⟨rfl,rfl⟩
   go_wp2
   go_ret
   exact ⟨rfl,uH HH⟩
 | true =>
   obtain ⟨m,rfl,m0,m1⟩:=cacheB_nat hc
   rw [show (decide (1≤(m:Int)) && decide ((m:Int)<(t.caches.length:Int)))=true from hc] at KC
   have KK:=hide (fun w=>key_any k w hk)
   cases hkb:keyB k with
   | false =>
     have e1:askE t m k=3:=by unfold askE;rw [hc,hkb];rfl
     have e2:askS t m id k=t:=by unfold askS;rw [e1];rfl
     rw [e1,e2]
     rw [hkb] at KK
     clear h e1 e2 hc hkb
     go_enter Tryz.func44,Tryz.ntmps44
     go_wp2_with fail
     refine (uH KC).mono ?_
     rintro e w1 ⟨rfl,rfl⟩
     go_wp2_with fail
     refine (uH KK _).mono ?_
     rintro e w1 ⟨rfl,rfl⟩
     go_wp2
     go_ret
     exact ⟨rfl,uH HH⟩
   | true =>
     have e1:askE t m k=0:=by unfold askE;rw [hc,hkb];rfl
     have e2:askS t m id k=t.wants m k ⟨-1,id,0,0⟩:=by unfold askS;rw [e1,if_pos rfl,Int.toNat_natCast]
     rw [e1,e2]
     rw [hkb] at KK
     have KW:=hide (rwants_any h (hf m m0 m1) k ⟨-1,id,0,0⟩)
     unfold wtrV wtrL at KW
     dsimp only at KW
     clear h e1 e2 hc hkb
     go_enter Tryz.func44,Tryz.ntmps44
     go_wp2_with fail
     refine (uH KC).mono ?_
     rintro e w1 ⟨rfl,rfl⟩
     go_wp2_with fail
     refine (uH KK _).mono ?_
     rintro e w1 ⟨rfl,rfl⟩
     go_wp2_with fail
     refine (uH KW).mono ?_
     rintro e w2 ⟨rfl,R⟩
     have HR:=hide R
     clear R KW
     go_wp2
     go_ret
     exact ⟨rfl,uH HR⟩
theorem RLies.ticked (h:RLies own τ w br g t) {n:Nat} (hn:n<t.caches.length) (r:Int):RLeaves own τ w br (t.tick n r) (w.setCell ⟨g.bc,n*3,none⟩ (.int .i64 r)):=by
  have hcac:∀ m,(t.tick n r).cac m=if m=n then { t.cac n with clock:=r } else t.cac m:=fun m=>by
    unfold Tier.St.tick
    rw [Tier.cac_set]
    by_cases e:m=n
    ·rw [if_pos ⟨e,hn⟩,if_pos e]
    ·rw [if_neg (fun c=>e c.1),if_neg e]
  have hlen:(t.tick n r).caches.length=t.caches.length:=Tier.length_set t n _
  have T:Turn (fun k=>∃ x,x=4∧own k=some (τ,x)) w (w.setCell ⟨g.bc,n*3,none⟩ (.int .i64 r)):=(Turn.refl _ _).sS (Or.inr ⟨4,rfl,h.cacsO⟩)
  have F:Fr (fun x=>x=4) own own τ w (w.setCell ⟨g.bc,n*3,none⟩ (.int .i64 r)):=fr_of T (fun _ _ _ _ _=>rfl)
  refine ⟨own,g,h.next _ F (fun k hk=>h.top k (by simpa using hk)) (by omega) hlen rfl rfl ?_ h.blockO (Or.inl ⟨by omega,rfl,rfl⟩) ?_ h.cacsO (Or.inl ⟨by omega,rfl,rfl⟩) (Or.inl ⟨by omega,rfl,rfl⟩) (fun m hm=>Or.inl ⟨by omega,rfl,?_⟩) (fun m hm=>Or.inl ⟨by omega,rfl,?_⟩) (fun m hm f hf=>Or.inl ⟨by omega,rfl,f,?_,rfl,rfl⟩),step_of T (fun _ _=>Or.inl rfl)⟩
  ·have:=F.block h.blockO (by omega) h.block
   rw [this]
   unfold refC
   rw [hlen];rfl
  ·refine h.cacs.put (i:=0) hn (by omega) (.int .i64 r) hlen (fun m hm=>?_) (fun m hm=>?_) (fun m hm=>?_)
   ·rw [hcac]
    by_cases e:m=n
    ·rw [if_pos ⟨e,rfl⟩,if_pos e]
    ·rw [if_neg (fun c=>e c.1),if_neg e]
   ·rw [if_neg (by omega)]
   ·rw [if_neg (by omega)]
  ·rw [hcac];split
   ·next e=>rw [e]
   ·rfl
  ·rw [hcac];split
   ·next e=>rw [e]
   ·rfl
  ·rw [hcac] at hf
   split at hf
   ·next e=>rw [e];exact hf
   ·exact hf
theorem tick_same {n:Nat}:t.tick n (t.cac n).clock=t:=by
  have h1:∀ (l:List Cac) (n:Nat),l.set n { l.getD n Tier.noCac with clock:=(l.getD n Tier.noCac).clock }=l:=by
    intro l n
    refine List.ext_getElem? (fun i=>?_)
    rw [List.getElem?_set]
    by_cases e:n=i
    ·subst e
     rw [if_pos rfl]
     split
     ·next hl=>rw [List.getD_eq_getElem?_getD,List.getElem?_eq_getElem hl];rfl
     ·next hl=>rw [List.getElem?_eq_none (by omega)]
    ·rw [if_neg e]
  unfold Tier.St.tick Tier.St.setCac Tier.St.cac
  rw [h1]
def clockE (t:St) (n r:Int):Int:=if cacheB t n=false then 2 else if r<0∨1099511627776<r then 5 else 0
def clockS (t:St) (n r:Int):St:=if clockE t n r=0 then t.tick n.toNat (max (t.cac n.toNat).clock r) else t
theorem rClock_any (h:RLies own τ w br g t) (n r:Int) :
    Calls Tryz.prog 42 #[.pointer (some ⟨br,0,none⟩),.int .i64 n,.int .i64 r] w fun e w'=>e= .returned (.int .i64 (clockE t n r))∧RLeaves own τ w br (clockS t n r) w':=by
 have KC:=hide (rcache_any h n)
 have HH:=hide h.stays
 cases hc:cacheB t n with
 | false =>
   have e1:clockE t n r=2:=by unfold clockE;rw [hc];rfl
   have e2:clockS t n r=t:=by unfold clockS;rw [e1];rfl
   rw [e1,e2]
   rw [show (decide (1≤n) && decide (n<(t.caches.length:Int)))=false from hc] at KC
   clear h e1 e2 hc
   go_enter Tryz.func42,Tryz.ntmps42
   go_wp2_with fail
   refine (uH KC).mono ?_
   rintro e w1 ⟨rfl,rfl⟩
   go_wp2
   go_ret
   exact ⟨rfl,uH HH⟩
 | true =>
   obtain ⟨m,rfl,m0,m1⟩:=cacheB_nat hc
   rw [show (decide (1≤(m:Int)) && decide ((m:Int)<(t.caches.length:Int)))=true from hc] at KC
   by_cases hr:r<0
   ·have e1:clockE t m r=5:=by unfold clockE;rw [hc,if_neg (by decide),if_pos (Or.inl hr)]
    have e2:clockS t m r=t:=by unfold clockS;rw [e1];rfl
    rw [e1,e2]
    clear h e1 e2 hc
    go_enter Tryz.func42,Tryz.ntmps42
    go_wp2_with fail
    refine (uH KC).mono ?_
    rintro e w1 ⟨rfl,rfl⟩
    go_wp2
    go_ret
    exact ⟨rfl,uH HH⟩
   by_cases hr2:1099511627776<r
   ·have e1:clockE t m r=5:=by unfold clockE;rw [hc,if_neg (by decide),if_pos (Or.inr hr2)]
    have e2:clockS t m r=t:=by unfold clockS;rw [e1];rfl
    rw [e1,e2]
    clear h e1 e2 hc
    go_enter Tryz.func42,Tryz.ntmps42
    go_wp2_with fail
    refine (uH KC).mono ?_
    rintro e w1 ⟨rfl,rfl⟩
    go_wp2
    go_ret
    exact ⟨rfl,uH HH⟩
   have e1:clockE t m r=0:=by unfold clockE;rw [hc,if_neg (by decide),if_neg (fun c=>c.elim hr hr2)]
   have e2:clockS t m r=t.tick m (max (t.cac m).clock r):=by unfold clockS;rw [e1,if_pos rfl,Int.toNat_natCast]
   rw [e1,e2]
   have d6:w.cell? ⟨br,6,none⟩=some (.slice (some ⟨g.bc,0,none⟩) t.caches.length t.caches.length):=cOf h.block 6
   obtain ⟨k0,_,_,kf⟩:=h.cacs.at_ m1
   have kf:=kf (m*3)
   have n0:(0:Int)≤(m:Int):=by omega
   have n1:(m:Int)<(t.caches.length:Int):=by omega
   by_cases hgt:(t.cac m).clock<r
   ·have HR:=hide (h.ticked m1 r)
    rw [show max (t.cac m).clock r=r by omega]
    generalize t.tick m r=tt at *
    generalize (t.cac m).clock=ck at *
    generalize t.caches.length=ml at *
    clear h e1 e2 hc
    go_enter Tryz.func42,Tryz.ntmps42
    go_wp2_with fail
    refine (uH KC).mono ?_
    rintro e w1 ⟨rfl,rfl⟩
    go_wp2
    go_ret
    exact ⟨rfl,uH HR⟩
   ·rw [show max (t.cac m).clock r=(t.cac m).clock by omega,tick_same]
    generalize (t.cac m).clock=ck at *
    generalize t.caches.length=ml at *
    clear h e1 e2 hc
    go_enter Tryz.func42,Tryz.ntmps42
    go_wp2_with fail
    refine (uH KC).mono ?_
    rintro e w1 ⟨rfl,rfl⟩
    go_wp2
    go_ret
    exact ⟨rfl,uH HH⟩
def placeB (t:St) (i:Int):Bool:=decide (0≤i) && decide (i<(t.net.length:Int))
def loseE (t:St) (i:Int):Int:=if placeB t i=true then 0 else 6
def loseS (t:St) (i:Int):St:=if placeB t i=true then t.taken i.toNat else t
theorem placeB_nat {i:Int} (h:placeB t i=true):∃ (j:Nat) (m:Mes),i=(j:Int)∧j<t.net.length∧t.net[j]?=some m:=by
  unfold placeB at h
  rw [Bool.and_eq_true,decide_eq_true_eq,decide_eq_true_eq] at h
  exact ⟨i.toNat,t.net[i.toNat]'(by omega),by omega,by omega,List.getElem?_eq_getElem (by omega)⟩
theorem rLose_any (h:RLies own τ w br g t) (i:Int) (hl:t.net.length≤1000000000000) :
    Calls Tryz.prog 48 #[.pointer (some ⟨br,0,none⟩),.int .i64 i] w fun e w'=>e= .returned (.int .i64 (loseE t i))∧RLeaves own τ w br (loseS t i) w':=by
 have HH:=hide h.stays
 obtain ⟨na,nc,hnv⟩:=rowForm h.net
 have d7:w.cell? ⟨br,7,none⟩=some (.slice na t.net.length nc):=by rw [← hnv];exact cOf h.block 7
 by_cases h0:i<0
 ·have e1:loseE t i=6:=by unfold loseE placeB;rw [decide_eq_false (by omega)];rfl
  have e2:loseS t i=t:=by unfold loseS placeB;rw [decide_eq_false (by omega)];rfl
  rw [e1,e2]
  clear h e1 e2 hnv hl
  go_enter Tryz.func48,Tryz.ntmps48
  go_wp2
  go_ret
  exact ⟨rfl,uH HH⟩
 by_cases h1:i<(t.net.length:Int)
 ·have hp:placeB t i=true:=by unfold placeB;rw [decide_eq_true (by omega),decide_eq_true h1];rfl
  obtain ⟨j,m,rfl,hj,hm⟩:=placeB_nat hp
  have e1:loseE t j=0:=by unfold loseE;rw [if_pos hp]
  have e2:loseS t j=t.taken j:=by unfold loseS;rw [if_pos hp,Int.toNat_natCast]
  rw [e1,e2]
  have KT:=hide (rtaken_any h hm hl)
  unfold mesV mesL at KT
  generalize t.net.length=nl at *
  clear h e1 e2 hnv hl hp
  go_enter Tryz.func48,Tryz.ntmps48
  go_wp2_with fail
  refine (uH KT).mono ?_
  rintro e w1 ⟨rfl,R⟩
  have HR:=hide R
  clear R KT
  go_wp2
  go_ret
  exact ⟨rfl,uH HR⟩
 ·have e1:loseE t i=6:=by unfold loseE placeB;rw [decide_eq_false h1,Bool.and_false];rfl
  have e2:loseS t i=t:=by unfold loseS placeB;rw [decide_eq_false h1,Bool.and_false];rfl
  rw [e1,e2]
  generalize t.net.length=nl at *
  clear h e1 e2 hnv hl
  go_enter Tryz.func48,Tryz.ntmps48
  go_wp2
  go_ret
  exact ⟨rfl,uH HH⟩
def itemFrom (k:ByteArray) (l:List Tier.Item):Tier.Item:=(l.find? fun x=>decide (x.key=k)).getD ⟨k,0,0,Tier.empty⟩
theorem itemFrom_hit {k:ByteArray} {l:List Tier.Item} {j:Nat} {x:Tier.Item} (h:l[j]?=some x) (e:x.key=k):itemFrom k (l.drop j)=x:=by
  obtain ⟨hlt,hx⟩:=List.getElem?_eq_some_iff.1 h
  unfold itemFrom
  rw [List.drop_eq_getElem_cons hlt,hx,List.find?_cons_of_pos (by simpa using e)];rfl
theorem itemFrom_miss {k:ByteArray} {l:List Tier.Item} {j:Nat} {x:Tier.Item} (h:l[j]?=some x) (e:¬ x.key=k):itemFrom k (l.drop j)=itemFrom k (l.drop (j+1)):=by
  obtain ⟨hlt,hx⟩:=List.getElem?_eq_some_iff.1 h
  unfold itemFrom
  rw [List.drop_eq_getElem_cons hlt,hx,List.find?_cons_of_neg (by simpa using e)]
theorem ritem_any (h:RLies own τ w br g t) (hl:t.items.length≤1000000) (k:ByteArray) :
    Calls Tryz.prog 71 #[.pointer (some ⟨br,0,none⟩),.string k] w fun r w'=>r= .returned (itemV (t.item k))∧Turn nO w w':=by
 obtain ⟨va,vc,hv⟩:=rowForm h.items
 have d5:w.cell? ⟨br,5,none⟩=some (.slice va t.items.length vc):=by rw [← hv];exact cOf h.block 5
 have HA:Hid (∀ j x,t.items[j]?=some x→∃ b,va=some ⟨b,0,none⟩∧b<w.heap.size∧w.cell? ⟨b,j*4,none⟩=some (.string x.key)∧w.cell? ⟨b,j*4+1,none⟩=some (.int .i64 x.ver)∧w.cell? ⟨b,j*4+2,none⟩=some (.int .i64 x.pres)∧w.cell? ⟨b,j*4+3,none⟩=some (.string x.val)):=fun j x hj=>by
   obtain ⟨b,c',e',_,hb,hc,_⟩:=rowAt h.items (fun _=>rfl) hj
   rw [hv] at e'
   cases e'
   exact ⟨b,rfl,hb,hc 0 (by omega),hc 1 (by omega),hc 2 (by omega),hc 3 (by omega)⟩
 have hbr:=h.lt
 clear h hv
 have HIT:Hid (t.item k=itemFrom k (t.items.drop 0)):=rfl
 generalize t.item k=R at *
 generalize t.items=l at *
 have HL:=hide hl
 generalize hN:l.length=N at *
 clear hl
 go_enter Tryz.func71,Tryz.ntmps71
 go_wp2
 generalize hW:World.alloc _ _=W0
 have T0:Turn nO w W0:=by rw [← hW];exact Turn.alloc _ _ _
 have hsz:W0.heap.size=w.heap.size+1:=by rw [← hW];simp
 have TH:There W0 w.heap.size 4:=by rw [← hW];exact There.of_cells (new1_0 w _) (by simp)
 have z0:=peek_some (TH.are 0 (by omega))
 have z1:=peek_some (TH.are 1 (by omega))
 have z2:=peek_some (TH.are 2 (by omega))
 have z3:=peek_some (TH.are 3 (by omega))
 have y0:=TH.free 0
 have y1:=TH.free 1
 have y2:=TH.free 2
 have y3:=TH.free 3
 have d5:=T0.cell d5 id
 clear hW TH
 go_loopw [5] (fun i wr=>∃ j:Nat,j≤N∧i= .int .i64 (j:Int)∧wr=W0∧Hid (R=itemFrom k (l.drop j))) (fun i _=>N - (intOf i).toNat)
 case atStart=>exact ⟨0,Nat.zero_le _,rfl,rfl,HIT⟩
 case round =>
   clear HIT
   obtain ⟨j,jN,rfl,rfl,HR⟩:=hrel
   have hjw:IntKind.i64.wrap ((j:Int)+1)=(j:Int)+1:=by rw [IntKind.wrap_i64];have:=uH HL;omega
   by_cases hlt:j<N
   ·obtain ⟨x,hx⟩:∃ x,l[j]?=some x:=⟨_,List.getElem?_eq_getElem (by omega)⟩
    obtain ⟨b,rfl,hb,c0,c1,c2,c3⟩:=uH HA j x hx
    have c0:=T0.cell c0 id
    have c1:=T0.cell c1 id
    have c2:=T0.cell c2 id
    have c3:=T0.cell c3 id
    have j0:(0:Int)≤(j:Int):=by omega
    have j1:(j:Int)<(N:Int):=by omega
    have hbne:b≠w.heap.size:=by omega
    by_cases hk:x.key=k
    ·have hkb:(x.key.toList == k.toList)=true:=by rw [bytes_same];exact decide_eq_true hk
     have HE:Hid (R=x):=(uH HR).trans (itemFrom_hit hx hk)
     obtain ⟨xk,xv,xp,xx⟩:=x
     dsimp only at *
     clear HR hk
     go_wp2
     exact bodyPost_ret (v:= .agg #[.string xk,.int .i64 xv,.int .i64 xp,.string xx]) (by simp [results,Tryz.results71,go_sem,z0,z1,z2,z3]) rfl ⟨by rw [uH HE];rfl,T0.sT (show Turn (fun k=>k=w.heap.size) wr _ from by (repeat (first|(with_reducible first|assumption|exact Turn.refl _ _|apply Turn.sA|apply Turn.sD|refine tN ?_ (by assumption))|((with_reducible refine Turn.sS ?_ ?_);rotate_left;· first|exact Or.inr rfl|exact Or.inr (Or.inl rfl)|exact Or.inl (by simp <;> omega))|(with_reducible refine tG ?_ (by assumption))|(with_reducible first|apply There.drew|apply There.set|refine hNo ?_ (by assumption))|assumption))) (fun k hk e=>by omega)⟩
    ·have hkb:(x.key.toList == k.toList)=false:=by rw [bytes_same];exact decide_eq_false hk
     have HR':Hid (R=itemFrom k (l.drop (j+1))):=(uH HR).trans (itemFrom_miss hx hk)
     clear HR hk
     go_wp2
     go_roundw
     case rel=>exact ⟨j+1,by omega,by go_num,trivial,HR'⟩
     case measure=>simp [intOf];omega
   ·have j1:¬ (j:Int)<(N:Int):=by omega
    have HE:Hid (R=⟨k,0,0,Tier.empty⟩):=by show _=_;rw [uH HR,List.drop_of_length_le (by omega)];rfl
    clear HR
    go_wp2
    exact bodyPost_ret (v:= .agg #[.string k,.int .i64 0,.int .i64 0,.string ⟨#[]⟩]) (by simp [results,Tryz.results71,go_sem,z0,z1,z2,z3]) rfl ⟨by rw [uH HE];rfl,T0.sT (show Turn (fun k=>k=w.heap.size) wr _ from by (repeat (first|(with_reducible first|assumption|exact Turn.refl _ _|apply Turn.sA|apply Turn.sD|refine tN ?_ (by assumption))|((with_reducible refine Turn.sS ?_ ?_);rotate_left;· first|exact Or.inr rfl|exact Or.inr (Or.inl rfl)|exact Or.inl (by simp <;> omega))|(with_reducible refine tG ?_ (by assumption))|(with_reducible first|apply There.drew|apply There.set|refine hNo ?_ (by assumption))|assumption))) (fun k hk e=>by omega)⟩
theorem infoItem:(Tryz.prog.info? 136).map (fun i=>(i.zero,i.size,i.bytes))=some (some (.agg #[.string ⟨#[]⟩,.int .i64 0,.int .i64 0,.string ⟨#[]⟩]),4,48):=by kernel_rfl
theorem filter_item (k:ByteArray) (l:List Tier.Item) (j:Nat) (x:Tier.Item) (h:l[j]?=some x):(l.take (j+1)).filter (fun y=>decide (y.key≠k))=(l.take j).filter (fun y=>decide (y.key≠k)) ++ if x.key≠k then [x] else []:=by
  rw [List.take_add_one,h,List.filter_append]
  congr 1
  by_cases c:x.key=k <;> simp [c]
theorem rchanges_any (h:RLies own τ w br g t) (hl:t.items.length≤1000000) (x:Tier.Item) :
    Calls Tryz.prog 72 #[.pointer (some ⟨br,0,none⟩),itemV x] w fun r w'=>r= .returned (.tuple #[])∧RLeaves own τ w br (t.changes x) w':=by
 obtain ⟨ti,hi,hz0,hz1,hz2⟩:=info_parts infoItem
 obtain ⟨va,vc,hv⟩:=rowForm h.items
 have d5:w.cell? ⟨br,5,none⟩=some (.slice va t.items.length vc):=by rw [← hv];exact cOf h.block 5
 have f5:w.frozen? ⟨br,5,none⟩=false:=fOf h.block 5
 have HFIN:Hid (∀ (v:Value) (w1:World),Grow w w1 136 4 v ((t.items.filter (fun y=>decide (y.key≠x.key)) ++ [x]).map itemL)→RLeaves own τ w br (t.changes x) (w1.setCell ⟨br,5,none⟩ v)):=fun v w1 G=>h.putItems G
 have HA:Hid (∀ j x,t.items[j]?=some x→∃ b,va=some ⟨b,0,none⟩∧w.cell? ⟨b,j*4,none⟩=some (.string x.key)∧w.cell? ⟨b,j*4+1,none⟩=some (.int .i64 x.ver)∧w.cell? ⟨b,j*4+2,none⟩=some (.int .i64 x.pres)∧w.cell? ⟨b,j*4+3,none⟩=some (.string x.val)):=fun j x hj=>by
   obtain ⟨b,c',e',_,hb,hc,_⟩:=rowAt h.items (fun _=>rfl) hj
   rw [hv] at e'
   cases e'
   exact ⟨b,rfl,hc 0 (by omega),hc 1 (by omega),hc 2 (by omega),hc 3 (by omega)⟩
 have hbr:=h.lt
 clear h hv
 generalize t.changes x=tc at *
 generalize t.items=old at *
 have HL:=hide hl
 have HFT:=hide (fun j y=>filter_item x.key old j y)
 generalize hN:old.length=N at *
 clear hl
 obtain ⟨key,ver,pres,val⟩:=x
 unfold itemV itemL
 dsimp only at *
 go_enter Tryz.func72,Tryz.ntmps72
 go_wp2
 generalize hW:World.alloc w _=W0
 have T0:Turn nO w W0:=by rw [← hW];exact Turn.alloc _ _ _
 have hsz:W0.heap.size=w.heap.size+1:=by rw [← hW];simp
 have x0:W0.cell? ⟨w.heap.size,0,none⟩=some (.string key):=by rw [← hW];exact cOf (new1_0 w _) 0
 have x1:W0.cell? ⟨w.heap.size,1,none⟩=some (.int .i64 ver):=by rw [← hW];exact cOf (new1_0 w _) 1
 have x2:W0.cell? ⟨w.heap.size,2,none⟩=some (.int .i64 pres):=by rw [← hW];exact cOf (new1_0 w _) 2
 have x3:W0.cell? ⟨w.heap.size,3,none⟩=some (.string val):=by rw [← hW];exact cOf (new1_0 w _) 3
 have HG0:Hid (Grow W0 W0 136 4 (.slice none 0 0) (((old.take 0).filter fun y=>decide (y.key≠key)).map itemL)):=Grow.nil W0 _ _
 have HT0:=hide T0
 have HX:=hide (And.intro x0 (And.intro x1 (And.intro x2 x3)))
 have HD5:=hide (And.intro d5 f5)
 clear hW T0 x0 x1 x2 x3 d5 f5
 go_loopw [4,5] (fun l i wr=>∃ (j:Nat) (v:Value),j≤N∧i= .int .i64 (j:Int)∧l=v∧Hid (Grow W0 wr 136 4 v (((old.take j).filter fun y=>decide (y.key≠key)).map itemL))) (fun _ i _=>N - (intOf i).toNat)
 case atStart=>exact ⟨0,_,Nat.zero_le _,rfl,rfl,HG0⟩
 case round =>
   obtain ⟨j,v,jN,rfl,rfl,HG⟩:=hrel
   clear HG0
   have hjw:IntKind.i64.wrap ((j:Int)+1)=(j:Int)+1:=by rw [IntKind.wrap_i64];have:=uH HL;omega
   obtain ⟨va',vc',hv'⟩:=row_form (uH HG).row
   rw [List.length_map] at hv'
   subst hv'
   have TW:=(uH HG).turn
   have TW2:=(uH HT0).sT TW (fun _ _ h=>h)
   have x0:=TW.cell (uH HX).1 id
   have x1:=TW.cell (uH HX).2.1 id
   have x2:=TW.cell (uH HX).2.2.1 id
   have x3:=TW.cell (uH HX).2.2.2 id
   have d5:=TW2.cell (uH HD5).1 id
   have f5:=TW2.froz (uH HD5).1 id (uH HD5).2
   have hbw:br<wr.heap.size:=Nat.lt_of_lt_of_le hbr TW2.size
   have hww:w.heap.size<wr.heap.size:=by have:=TW.size;omega
   have HST:=hide (uH HFT j)
   have HLEN:Hid (((old.take j).filter fun y=>decide (y.key≠key)).length≤1000000):=by
     show _≤_
     refine Nat.le_trans (List.length_filter_le _ _) ?_
     rw [List.length_take]
     have:=uH HL;omega
   by_cases hlt:j<N
   ·obtain ⟨x,hx⟩:∃ x,old[j]?=some x:=⟨_,List.getElem?_eq_getElem (by omega)⟩
    obtain ⟨b,rfl,c0,c1,c2,c3⟩:=uH HA j x hx
    have c0:=TW2.cell c0 id
    have c1:=TW2.cell c1 id
    have c2:=TW2.cell c2 id
    have c3:=TW2.cell c3 id
    have j0:(0:Int)≤(j:Int):=by omega
    have j1:(j:Int)<(N:Int):=by omega
    have hst:=uH HST x hx
    generalize hLL:((old.take j).filter fun y=>decide (y.key≠key))=L at *
    clear TW TW2
    by_cases hk:x.key=key
    ·have hkb:(x.key.toList == key.toList)=true:=by rw [bytes_same];exact decide_eq_true hk
     rw [if_neg (fun c=>c hk),List.append_nil] at hst
     have HL2:=hide hst
     clear hk hst hLL
     go_wp2
     go_quiet (fail)
     generalize hV:World.drewN wr _=V
     have TV:Turn nO wr V:=by rw [← hV];exact turn_drewN _ _ _
     have HGV:=hide ((uH HG).more TV)
     clear hV c0 c1 c2 c3 x0 x1 x2 x3 d5 f5 HG TV
     go_wp2
     go_roundw
     case rel =>
       refine ⟨j+1,_,by omega,by go_num,rfl,?_⟩
       have:=uH HL2;rw [this];exact HGV
     case measure=>simp [intOf];omega
    ·have hkb:(x.key.toList == key.toList)=false:=by rw [bytes_same];exact decide_eq_false hk
     rw [if_pos hk] at hst
     have HL2:=hide hst
     clear hk hst hLL
     go_wp2
     go_quiet (fail)
     generalize hV:World.drewN wr _=V
     have TV:Turn nO wr V:=by rw [← hV];exact turn_drewN _ _ _
     have c0:=TV.cell c0 id
     have c1:=TV.cell c1 id
     have c2:=TV.cell c2 id
     have c3:=TV.cell c3 id
     have d5:=TV.cell d5 id
     have HGV:=hide ((uH HG).more TV)
     clear hV x0 x1 x2 x3 f5 HG TV
     have hwV:W0.heap.size≤V.heap.size:=(uH HGV).turn.size
     have hrow:=hide (uH HGV).row
     have hlm:(L.map itemL).length=L.length:=List.length_map _
     generalize hxs:(L.map itemL).flatten=xs at *
     generalize hm:L.length=lm at *
     rw [hlm] at hrow
     obtain ⟨xk,xv,xp,xx⟩:=x
     dsimp only at *
     go_wp2_with (at_builtin;refine wpList_append_lies _ (by rfl) _ _ _ (by rfl) W0.heap.size 136 ti _ 4 48 Tryz.underlying80 hi hz0 hz1 hz2 rfl (by omega) (.slice va' lm vc') lm xs ?c1 ?c2 ⟨V.heap.size,0,none⟩ 1 1 [.string xk,.int .i64 xv,.int .i64 xp,.string xx] ?c3 ?c4 ?c5 ?c6 ?c7 ?c8 ?c9 ?c10 (V.heap.size+1) ?c11 ?_)
     case c1=>rfl
     case c2=>exact (uH hrow).alloc _
     case c3=>rfl
     case c4=>rfl
     case c5=>exact World.news_of_block (cs:=#[.string xk,.int .i64 xv,.int .i64 xp,.string xx]) (t:=136) (fr:=(0,0)) (new1_0 V _)
     case c6=>simp [Value.oneCell']
     case c7=>omega
     case c8=>have:=uH HLEN;unfold maxLen;omega
     case c9=>have:=uH HLEN;omega
     case c10=>simp;omega
     case c11=>simp
     intro gb cap2 w5 hown1 hgrow hat hlt5
     have HG5:Hid (Grow W0 w5 136 4 (.slice (some ⟨gb,0,none⟩) (lm+1) cap2) ((L ++ [Tier.Item.mk xk xv xp xx]).map itemL)):=by
       have h1:=Grow.snoc (r:=itemL ⟨xk,xv,xp,xx⟩) (uH HGV) hgrow (by rw [hlm,hxs,hsz];exact hown1)
       rw [hlm] at h1
       rw [List.map_append]
       exact h1
     clear hown1 hgrow hat hrow HGV c0 c1 c2 c3
     go_wp2
     go_roundw
     case rel =>
       refine ⟨j+1,_,by omega,by go_num,rfl,?_⟩
       have:=uH HL2;rw [this];exact HG5
     case measure=>simp [intOf];omega
   ·have j1:¬ (j:Int)<(N:Int):=by omega
    have hall:old.take j=old:=List.take_of_length_le (by omega)
    have HALL:Hid ((old.take j).filter (fun y=>decide (y.key≠key))=old.filter (fun y=>decide (y.key≠key))):=by show _=_;rw [hall]
    generalize hLL:((old.take j).filter fun y=>decide (y.key≠key))=L at *
    clear hall hLL
    have hwV:W0.heap.size≤wr.heap.size:=TW.size
    have hrow:=hide (uH HG).row
    have hlm:(L.map itemL).length=L.length:=List.length_map _
    generalize hxs:(L.map itemL).flatten=xs at *
    generalize hm:L.length=lm at *
    rw [hlm] at hrow
    have hnb:some br≠(Value.slice va' lm vc').ownBlock:=fun e=>by have:=((uH hrow).lt br e.symm).1;omega
    clear TW TW2
    go_wp2_with (at_builtin;refine wpList_append_lies _ (by rfl) _ _ _ (by rfl) W0.heap.size 136 ti _ 4 48 Tryz.underlying80 hi hz0 hz1 hz2 rfl (by omega) (.slice va' lm vc') lm xs ?c1 ?c2 ⟨wr.heap.size,0,none⟩ 1 1 [.string key,.int .i64 ver,.int .i64 pres,.string val] ?c3 ?c4 ?c5 ?c6 ?c7 ?c8 ?c9 ?c10 (wr.heap.size+1) ?c11 ?_)
    case c2=>rw [← hsz];exact (uH hrow).alloc _
    case c6=>simp [Value.oneCell']
    case c8=>have:=uH HLEN;unfold maxLen;omega
    case c9=>have:=uH HLEN;omega
    case c10=>omega
    intro gb cap2 w5 hown1 hgrow hat hlt5
    have HG5:Grow W0 w5 136 4 (.slice (some ⟨gb,0,none⟩) (lm+1) cap2) ((L ++ [Tier.Item.mk key ver pres val]).map itemL):=by
      have h1:=Grow.snoc (r:=itemL ⟨key,ver,pres,val⟩) (uH HG) hgrow (by rw [hlm,hxs,hsz];exact hown1)
      rw [hlm] at h1
      rw [List.map_append]
      exact h1
    have TG:Turn nO wr (wr.alloc (.cells #[.string key,.int .i64 ver,.int .i64 pres,.string val] 136)):=Turn.alloc _ _ _
    have q5:w5.cell? ⟨br,5,none⟩=some (.slice va N vc):=by rw [hgrow.cell_far ⟨br,5,none⟩ (Nat.lt_of_lt_of_le hbw TG.size) hnb];exact TG.cell d5 id
    have q5f:w5.frozen? ⟨br,5,none⟩=false:=by rw [World.frozen?_of_block (hgrow.block br (Nat.lt_of_lt_of_le hbw TG.size) hnb)];exact TG.froz d5 id f5
    have HE:=hide (uH HFIN _ _ (by rw [← uH HALL];exact HG5.low (uH HT0)))
    clear hown1 hgrow hat hrow HG HG5 d5 f5 x0 x1 x2 x3 TG
    go_wp2
    go_end0
    exact ⟨rfl,uH HE⟩
def writeE (t:St) (k v:ByteArray):Int:=if keyB k=false then 3 else if 16<v.size then 4 else if (t.item k).ver=0∧16≤t.items.length then 7 else 0
def writeS (t:St) (k v:ByteArray):St:=if writeE t k v=0 then t.changes ⟨k,(t.item k).ver+1,1,v⟩ else t
theorem rWrite_any (h:RLies own τ w br g t) (k v:ByteArray) (hk:k.size≤maxLen) (hv:v.size≤maxLen) (hl:t.items.length≤1000000) (hver:0≤(t.item k).ver∧(t.item k).ver≤1000000000000) :
    Calls Tryz.prog 38 #[.pointer (some ⟨br,0,none⟩),.string k,.string v] w fun r w'=>r= .returned (.int .i64 (writeE t k v))∧RLeaves own τ w br (writeS t k v) w':=by
 have HH:=hide h
 have HST:=hide h.stays
 have KK:=hide (fun w=>key_any k w hk)
 have hvs:(v.size:Int)≤9223372036854775807:=by unfold maxLen at hv;omega
 cases hkb:keyB k with
 | false =>
   have e1:writeE t k v=3:=by unfold writeE;rw [hkb];rfl
   have e2:writeS t k v=t:=by unfold writeS;rw [e1];rfl
   rw [e1,e2]
   rw [hkb] at KK
   clear h e1 e2 hkb hver hvs
   go_enter Tryz.func38,Tryz.ntmps38
   go_wp2_with fail
   refine (uH KK _).mono ?_
   rintro e w1 ⟨rfl,rfl⟩
   go_wp2
   go_ret
   exact ⟨rfl,uH HST⟩
 | true =>
   rw [hkb] at KK
   by_cases h16:16<v.size
   ·have e1:writeE t k v=4:=by unfold writeE;rw [hkb,if_neg (by decide),if_pos h16]
    have e2:writeS t k v=t:=by unfold writeS;rw [e1];rfl
    rw [e1,e2]
    have h16':(16:Int)<(v.size:Int):=by omega
    clear h e1 e2 hkb hver hvs
    go_enter Tryz.func38,Tryz.ntmps38
    go_wp2_with fail
    refine (uH KK _).mono ?_
    rintro e w1 ⟨rfl,rfl⟩
    go_wp2
    go_ret
    exact ⟨rfl,uH HST⟩
   have h16':¬ (16:Int)<(v.size:Int):=by omega
   have KI:=hide (ritem_any h hl k)
   have HHT:=hide (fun (w':World) (T:Turn nO w w')=>(h.turn T))
   obtain ⟨na,nc,hnv⟩:=rowForm h.items
   have d5:w.cell? ⟨br,5,none⟩=some (.slice na t.items.length nc):=by rw [← hnv];exact cOf h.block 5
   have hbr:=h.lt
   by_cases hfull:(t.item k).ver=0∧16≤t.items.length
   ·have e1:writeE t k v=7:=by unfold writeE;rw [hkb,if_neg (by decide),if_neg h16,if_pos hfull]
    have e2:writeS t k v=t:=by unfold writeS;rw [e1];rfl
    rw [e1,e2]
    obtain ⟨f1,f2⟩:=hfull
    have f2':¬ (t.items.length:Int)<16:=by omega
    have f2'':(16:Int)≤(t.items.length:Int):=by omega
    unfold itemV itemL at KI
    rw [f1] at KI
    generalize t.item k=it at *
    generalize t.items.length=il at *
    obtain ⟨ik,iv,ip,ix⟩:=it
    dsimp only at KI
    clear h e1 e2 hkb hver hvs f1 hnv
    go_enter Tryz.func38,Tryz.ntmps38
    go_wp2_with fail
    refine (uH KK _).mono ?_
    rintro e w1 ⟨rfl,rfl⟩
    go_wp2_with fail
    refine (uH KI).mono ?_
    rintro e w2 ⟨rfl,T2⟩
    have d5:=T2.cell d5 id
    have hbx:br<w2.heap.size:=Nat.lt_of_lt_of_le hbr T2.size
    have HT2:=hide T2
    clear T2 KI
    go_wp2
    go_ret
    exact ⟨rfl,((uH HHT _ (uH HT2).sA).stays).trans (Step.of_turn (uH HT2).sA)⟩
   ·have e1:writeE t k v=0:=by unfold writeE;rw [hkb,if_neg (by decide),if_neg h16,if_neg hfull]
    have e2:writeS t k v=t.changes ⟨k,(t.item k).ver+1,1,v⟩:=by unfold writeS;rw [e1];rfl
    rw [e1,e2]
    have KC:=hide (fun (w':World) (T:Turn nO w w')=>rchanges_any (h.turn T) hl ⟨k,(t.item k).ver+1,1,v⟩)
    have hfl:(t.item k).ver=0→(t.items.length:Int)<16:=fun e=>by have:¬ 16≤t.items.length:=fun c=>hfull ⟨e,c⟩;omega
    have hvw:IntKind.i64.wrap ((t.item k).ver+1)=(t.item k).ver+1:=by rw [IntKind.wrap_i64];omega
    unfold itemV itemL at KI KC
    dsimp only at KC
    generalize t.changes ⟨k,(t.item k).ver+1,1,v⟩=tc at *
    generalize t.item k=it at *
    generalize t.items.length=il at *
    obtain ⟨ik,iv,ip,ix⟩:=it
    dsimp only at *
    clear h e1 e2 hkb hver hvs hnv hfull
    go_enter Tryz.func38,Tryz.ntmps38
    go_wp2_with fail
    refine (uH KK _).mono ?_
    rintro e w1 ⟨rfl,rfl⟩
    go_wp2_with fail
    refine (uH KI).mono ?_
    rintro e w2 ⟨rfl,T2⟩
    have d5:=T2.cell d5 id
    have hbx:br<w2.heap.size:=Nat.lt_of_lt_of_le hbr T2.size
    have HT2:=hide T2
    have KC2:=hide (fun o=>uH KC (w2.alloc o) T2.sA)
    clear T2 KI KC
    by_cases hv0:iv=0
    ·subst hv0
     have hlt:=hfl rfl
     clear hfl
     go_wp2_with fail
     refine (uH KC2 _).mono ?_
     rintro e w3 ⟨rfl,R3⟩
     have HR:=hide (R3.trans (Step.of_turn (uH HT2).sA))
     clear R3 KC2
     go_wp2
     go_ret
     exact ⟨rfl,uH HR⟩
    ·have hdz:decide (iv=0)=false:=decide_eq_false hv0
     clear hfl
     go_wp2_with fail
     refine (uH KC2 _).mono ?_
     rintro e w3 ⟨rfl,R3⟩
     have HR:=hide (R3.trans (Step.of_turn (uH HT2).sA))
     clear R3 KC2
     go_wp2
     go_ret
     exact ⟨rfl,uH HR⟩
def removeE (t:St) (k:ByteArray):Int:=if keyB k=false then 3 else if (t.item k).pres=0 then 8 else 0
def removeS (t:St) (k:ByteArray):St:=if removeE t k=0 then t.changes ⟨k,(t.item k).ver+1,0,Tier.empty⟩ else t
theorem rRemove_any (h:RLies own τ w br g t) (k:ByteArray) (hk:k.size≤maxLen) (hl:t.items.length≤1000000) (hver:0≤(t.item k).ver∧(t.item k).ver≤1000000000000) :
    Calls Tryz.prog 40 #[.pointer (some ⟨br,0,none⟩),.string k] w fun r w'=>r= .returned (.int .i64 (removeE t k))∧RLeaves own τ w br (removeS t k) w':=by
 have HST:=hide h.stays
 have KK:=hide (fun w=>key_any k w hk)
 cases hkb:keyB k with
 | false =>
   have e1:removeE t k=3:=by unfold removeE;rw [hkb];rfl
   have e2:removeS t k=t:=by unfold removeS;rw [e1];rfl
   rw [e1,e2]
   rw [hkb] at KK
   clear h e1 e2 hkb hver
   go_enter Tryz.func40,Tryz.ntmps40
   go_wp2_with fail
   refine (uH KK _).mono ?_
   rintro e w1 ⟨rfl,rfl⟩
   go_wp2
   go_ret
   exact ⟨rfl,uH HST⟩
 | true =>
   rw [hkb] at KK
   have KI:=hide (ritem_any h hl k)
   have HHT:=hide (fun (w':World) (T:Turn nO w w')=>(h.turn T))
   by_cases hp:(t.item k).pres=0
   ·have e1:removeE t k=8:=by unfold removeE;rw [hkb,if_neg (by decide),if_pos hp]
    have e2:removeS t k=t:=by unfold removeS;rw [e1];rfl
    rw [e1,e2]
    unfold itemV itemL at KI
    rw [hp] at KI
    generalize t.item k=it at *
    obtain ⟨ik,iv,ip,ix⟩:=it
    dsimp only at KI
    clear h e1 e2 hkb hver hp
    go_enter Tryz.func40,Tryz.ntmps40
    go_wp2_with fail
    refine (uH KK _).mono ?_
    rintro e w1 ⟨rfl,rfl⟩
    go_wp2_with fail
    refine (uH KI).mono ?_
    rintro e w2 ⟨rfl,T2⟩
    have HT2:=hide T2
    clear T2 KI
    go_wp2
    go_ret
    exact ⟨rfl,((uH HHT _ (uH HT2).sA).stays).trans (Step.of_turn (uH HT2).sA)⟩
   ·have e1:removeE t k=0:=by unfold removeE;rw [hkb,if_neg (by decide),if_neg hp]
    have e2:removeS t k=t.changes ⟨k,(t.item k).ver+1,0,Tier.empty⟩:=by unfold removeS;rw [e1];rfl
    rw [e1,e2]
    have KC:=hide (fun (w':World) (T:Turn nO w w')=>rchanges_any (h.turn T) hl ⟨k,(t.item k).ver+1,0,Tier.empty⟩)
    have hvw:IntKind.i64.wrap ((t.item k).ver+1)=(t.item k).ver+1:=by rw [IntKind.wrap_i64];omega
    unfold itemV itemL at KI KC
    dsimp only at KC
    unfold Tier.empty at KC
    have HTC:Hid (t.changes ⟨k,(t.item k).ver+1,0,Tier.empty⟩=t.changes ⟨k,(t.item k).ver+1,0,⟨#[]⟩⟩):=rfl
    rw [uH HTC]
    generalize t.changes ⟨k,(t.item k).ver+1,0,⟨#[]⟩⟩=tc at *
    generalize t.item k=it at *
    obtain ⟨ik,iv,ip,ix⟩:=it
    dsimp only at *
    have hdz:decide (ip=0)=false:=decide_eq_false hp
    clear h e1 e2 hkb hver HTC
    go_enter Tryz.func40,Tryz.ntmps40
    go_wp2_with fail
    refine (uH KK _).mono ?_
    rintro e w1 ⟨rfl,rfl⟩
    go_wp2_with fail
    refine (uH KI).mono ?_
    rintro e w2 ⟨rfl,T2⟩
    have HT2:=hide T2
    have KC2:=hide (fun o=>uH KC (w2.alloc o) T2.sA)
    clear T2 KI KC
    go_wp2_with fail
    refine (uH KC2 _).mono ?_
    rintro e w3 ⟨rfl,R3⟩
    have HR:=hide (R3.trans (Step.of_turn (uH HT2).sA))
    clear R3 KC2
    go_wp2
    go_ret
    exact ⟨rfl,uH HR⟩
end
end Go.Proofs.YtpdkojgepagbnaaGreatDoor
