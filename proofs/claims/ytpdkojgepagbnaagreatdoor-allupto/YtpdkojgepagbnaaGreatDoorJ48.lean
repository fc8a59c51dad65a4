/-
  What the two listed package variables hold, cell by cell, out of the row's list.
-/
import Derived.Test.YtpdkojgepagbnaaGreatDoorCards
import Derived.Test.YtpdkojgepagbnaaGreatDoorJ24
import Derived.ProofKit
import Derived.OpenShut
import Derived.Lib.LaidTab
import Derived.Lib.SmallJoins
set_option maxRecDepth 100000
set_option maxHeartbeats 8000000
namespace Go.Proofs.YtpdkojgepagbnaaGreatDoor.tabs
open Go.RowKit
theorem gKey:Tryz.prog.globalNamed Rows.flowsRow.laid[0].1=some 1:=by kernel_rfl
theorem gKeyType:(Tryz.prog.globals[1]?).map (·.type)=some 195:=by kernel_rfl
theorem gKind:Tryz.prog.globalNamed Rows.flowsRow.laid[1].1=some 0:=by kernel_rfl
theorem gKindType:(Tryz.prog.globals[0]?).map (·.type)=some 185:=by kernel_rfl
theorem cells69:Tryz.prog.cellsOf 195=4:=by kernel_rfl
theorem cells68:Tryz.prog.cellsOf 194=1:=by kernel_rfl
theorem cells63:Tryz.prog.cellsOf 184=4:=by kernel_rfl
theorem cells3':Tryz.prog.cellsOf 3=1:=by kernel_rfl
theorem keyTab_of {W:World} (h:laidMetH Tryz.prog Rows.flowsRow.laid W):KeyTab W:=by
  have ht:Lib.TabIs Tryz.prog W Rows.flowsRow.laid[0].1 .u64 [0,576460743713488896,0,0] :=
    Lib.tabIs_of_head (rest:=[(Rows.flowsRow.laid[1].1,Rows.laid_estuary_wire_kinds)]) gKey gKeyType Tryz.underlying195 Tryz.underlying194 cells68 cells69 h
  exact ⟨ht.cell gKey 0 (by decide),ht.cell gKey 1 (by decide),ht.cell gKey 2 (by decide),ht.cell gKey 3 (by decide)⟩
theorem bounds_cells {W:World} {m:Nat} {cs:List Value} {a b c d:Int} {p:List MemPlace}
    (h:DataW.trod (fun _=>()) Tryz.prog W 0 (fun _=>true) false m 184 cs=some (.agg [.lit (.int .i64 a),.lit (.int .i64 b),.lit (.int .i64 c),.lit (.int .i64 d)],p)) :
    cs=[.int .i64 a,.int .i64 b,.int .i64 c,.int .i64 d]:=by
 obtain ⟨y0,y1,y2,y3,n,hx,hl,h0,h1,h2,h3⟩:=Joins.trod_struct4 Tryz.underlying184 h
 rw [cells63] at hl
 match cs,hl with
 | [c0,c1,c2,c3],_ =>
   simp only [cells3',List.drop_zero,List.drop_succ_cons,List.take_succ_cons,List.take_zero] at h0 h1 h2 h3
   obtain ⟨n0,e0,x0,_⟩:=DataW.trod_int Tryz.underlying3 h0
   obtain ⟨n1,e1,x1,_⟩:=DataW.trod_int Tryz.underlying3 h1
   obtain ⟨n2,e2,x2,_⟩:=DataW.trod_int Tryz.underlying3 h2
   obtain ⟨n3,e3,x3,_⟩:=DataW.trod_int Tryz.underlying3 h3
   subst x0 x1 x2 x3
   simp only [Prod.mk.injEq,DataW.agg.injEq,List.cons.injEq,DataW.lit.injEq,Lit.int.injEq,true_and,and_true] at hx
   obtain ⟨⟨rfl,rfl,rfl,rfl⟩,_⟩:=hx
   simp only [List.cons.injEq,and_true] at e0 e1 e2 e3
   subst e0 e1 e2 e3
   rfl
theorem kindTab_of {W:World} (h:laidMetH Tryz.prog Rows.flowsRow.laid W):KindTab W:=by
  have h':laidMet Tryz.prog [(Rows.flowsRow.laid[0].1,Rows.laid_estuary_words_keyBytes),(Rows.flowsRow.laid[1].1,Rows.laid_estuary_wire_kinds)] W:=h
  obtain ⟨ps,⟨_,_,_,_,_,q,_,_,_,_,hr,_⟩,_⟩:=h'
  obtain ⟨g,t,cs,fuel,p,q',hg,ht,hvar,hd,_,_⟩:=hr
  obtain rfl:=Option.some.inj (gKind.symm.trans hg)
  obtain rfl:=Option.some.inj (gKindType.symm.trans ht)
  obtain ⟨xs,m,_,hx,hl,hn,hf⟩:=DataW.trod_array Tryz.underlying185 hd
  obtain ⟨y0,y1,y2,y3,y4,rfl⟩:∃ y0 y1 y2 y3 y4,xs=[y0,y1,y2,y3,y4]:=by
    match xs,hn with
    | [y0,y1,y2,y3,y4],_=>exact ⟨y0,y1,y2,y3,y4,rfl⟩
  simp only [Rows.laid_estuary_wire_kinds,Prod.mk.injEq,DataW.agg.injEq,List.map_cons,List.map_nil,List.cons.injEq,and_true] at hx
  obtain ⟨⟨_,x1,x2,x3,x4⟩,_⟩:=hx
  have part:∀ (i:Nat) (hi:i<5) (y:DataW Unit × List MemPlace) (a b c d:Int),[y0,y1,y2,y3,y4][i]?=some y→.agg [.lit (.int .i64 a),.lit (.int .i64 b),.lit (.int .i64 c),.lit (.int .i64 d)]=y.1 →
      W.cell? ⟨0,i*4,none⟩=some (.int .i64 a)∧W.cell? ⟨0,i*4+1,none⟩=some (.int .i64 b)∧W.cell? ⟨0,i*4+2,none⟩=some (.int .i64 c)∧W.cell? ⟨0,i*4+3,none⟩=some (.int .i64 d):=by
   intro i hi y a b c d hy hyd
   have hfi:=hf i hi
   rw [hy] at hfi
   obtain ⟨yd,yp⟩:=y
   simp only at hyd
   subst hyd
   have hc:=bounds_cells hfi
   rw [cells63] at hc
   have at_:∀ j v,j<4→[Value.int .i64 a,.int .i64 b,.int .i64 c,.int .i64 d][j]?=some v→W.cell? ⟨0,i*4+j,none⟩=some v:=by
     intro j v hj hv
     rw [World.var?_cell gKind hvar]
     rw [← hc,List.getElem?_take_of_lt hj,List.getElem?_drop] at hv
     simpa using hv
   exact ⟨at_ 0 _ (by omega) rfl,at_ 1 _ (by omega) rfl,at_ 2 _ (by omega) rfl,at_ 3 _ (by omega) rfl⟩
  intro k h1 h4
  have hk:k=1∨k=2∨k=3∨k=4:=by omega
  rcases hk with rfl|rfl|rfl|rfl
  ·exact part 1 (by omega) y1 _ _ _ _ rfl x1
  ·exact part 2 (by omega) y2 _ _ _ _ rfl x2
  ·exact part 3 (by omega) y3 _ _ _ _ rfl x3
  ·exact part 4 (by omega) y4 _ _ _ _ rfl x4
end Go.Proofs.YtpdkojgepagbnaaGreatDoor.tabs
