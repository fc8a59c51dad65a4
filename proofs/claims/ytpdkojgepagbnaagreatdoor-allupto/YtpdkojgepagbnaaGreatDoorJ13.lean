/-
  One element is taken out of a row: what slices, append and clear make of it.
  slices.Delete of one element: of texts.
  slices.Delete of one element: of messages.
  Room for one more entry: that which was used longest ago goes.
  Room for one more entry, where there is none.
-/
import Derived.Test.YtpdkojgepagbnaaGreatDoorJ12
import Derived.ArgAppend
namespace Go.Proofs.YtpdkojgepagbnaaGreatDoor
set_option maxRecDepth 100000
set_option maxHeartbeats 8000000
section
open Go.RowKit
section
variable {P:Program} {t e:TypeId} {i:TypeInfo} {sz:Nat} (ht:P.underlying t=some (.slice e)) (hi:P.info? e=some i) (hs:i.size=sz)
include ht hi hs
omit hs in
theorem sl_hi (g n c a:Nat) (ha:a≤c) (w:World):(Instr.slice t (.slice (some ⟨g,0,none⟩) n c) none (some (.int .i64 (a:Int))) none).run P w= .ok (.slice (some ⟨g,0,none⟩) a c) w:=by
  have h1:(Instr.sliceBound (.int .i64 (a:Int)) c .sliceAcap).run P w= .ok a w:=by rw [run_sliceBound w _ _ _ _ (by omega) (by omega)];simp
  simp [Instr.slice,Instr.sliceBounds,run_underlying ht,h1,sizeOf,typeInfo,hi,Result.andThen,Addr.add]
theorem sl_lo (g n c a:Nat) (ha:a≤n) (w:World):(Instr.slice t (.slice (some ⟨g,0,none⟩) n c) (some (.int .i64 (a:Int))) none none).run P w= .ok (.slice (some ⟨g,if c=a then 0 else a*sz,none⟩) (n - a) (c - a)) w:=by
  have h1:(Instr.sliceBound (.int .i64 (a:Int)) n .sliceB).run P w= .ok a w:=by rw [run_sliceBound w _ _ _ _ (by omega) (by omega)];simp
  by_cases h:c=a <;> simp [Instr.slice,Instr.sliceBounds,run_underlying ht,h1,sizeOf,typeInfo,hi,hs,Result.andThen,h,Addr.add]
  all_goals try exact fun h=>h.symm
theorem sl_lh (g n c a b:Nat) (ha:a≤b) (hb:b≤c) (hne:c≠a) (w:World):(Instr.slice t (.slice (some ⟨g,0,none⟩) n c) (some (.int .i64 (a:Int))) (some (.int .i64 (b:Int))) none).run P w= .ok (.slice (some ⟨g,a*sz,none⟩) (b - a) (c - a)) w:=by
  have h1:(Instr.sliceBound (.int .i64 (a:Int)) b .sliceB).run P w= .ok a w:=by rw [run_sliceBound w _ _ _ _ (by omega) (by omega)];simp
  have h2:(Instr.sliceBound (.int .i64 (b:Int)) c .sliceAcap).run P w= .ok b w:=by rw [run_sliceBound w _ _ _ _ (by omega) (by omega)];simp
  simp [Instr.slice,Instr.sliceBounds,run_underlying ht,h1,h2,sizeOf,typeInfo,hi,hs,Result.andThen,hne,Addr.add]
  exact fun h=>h.symm
theorem sl_lhm (g n c a b:Nat) (ha:a≤b) (hb:b≤n) (hn:n≤c) (hne:n≠a) (w:World):(Instr.slice t (.slice (some ⟨g,0,none⟩) n c) (some (.int .i64 (a:Int))) (some (.int .i64 (b:Int))) (some (.int .i64 (n:Int)))).run P w= .ok (.slice (some ⟨g,a*sz,none⟩) (b - a) (n - a)) w:=by
  have h1:(Instr.sliceBound (.int .i64 (a:Int)) b .slice3C).run P w= .ok a w:=by rw [run_sliceBound w _ _ _ _ (by omega) (by omega)];simp
  have h2:(Instr.sliceBound (.int .i64 (b:Int)) n .slice3B).run P w= .ok b w:=by rw [run_sliceBound w _ _ _ _ (by omega) (by omega)];simp
  have h3:(Instr.sliceBound (.int .i64 (n:Int)) c .slice3Acap).run P w= .ok n w:=by rw [run_sliceBound w _ _ _ _ (by omega) (by omega)];simp
  simp [Instr.slice,Instr.sliceBounds,run_underlying ht,h1,h2,h3,sizeOf,typeInfo,hi,hs,Result.andThen,hne,Addr.add]
  exact fun h=>h.symm
theorem append_row (ty tb:TypeId) (g n0 m c c2 so:Nat) (cur:Array Value) (w:World) (hb:w.heap[g]?=some (.cells cur tb (0,0))) (hroom:n0+m≤c) (hfit:(n0+m)*sz≤cur.size) (hsrc:m*sz≠0→so+m*sz≤cur.size) (hone:∀ v∈(cur.toList.drop so).take (m*sz),v.oneCell'=true) :
    ∃ w1,(Builtin.append_ #[t,t] ty #[.slice (some ⟨g,0,none⟩) n0 c,.slice (some ⟨g,so,none⟩) m c2]).run P w= .ok (.slice (some ⟨g,0,none⟩) (n0+m) c) w1∧w1.heap[g]?=some (.cells (cur.toList.take (n0*sz) ++ (if m*sz=0 then [] else (cur.toList.drop so).take (m*sz)) ++ cur.toList.drop (n0*sz+m*sz)).toArray tb (0,0))∧Turn (fun k=>k=g) w w1:=by
 obtain ⟨news,hnews⟩:∃ news,news=(if m*sz=0 then [] else (cur.toList.drop so).take (m*sz)):=⟨_,rfl⟩
 rw [← hnews]
 have hl:news.length=m*i.size:=by
   rw [hnews,hs]
   split
   ·rename_i h0;rw [h0];rfl
   ·rename_i h0
    have:=hsrc h0
    simp
    omega
 have hcell:∀ j u,news[j]?=some u→w.cell? ((⟨g,so,none⟩:Addr).add j)=some u:=by
   intro j u hu
   rw [hnews] at hu
   split at hu
   ·simp at hu
   ·have hadd:(⟨g,so,none⟩:Addr).add j=⟨g,so+j,none⟩:=by unfold Addr.add;split <;> simp_all
    have hj:=(List.getElem?_eq_some_iff.1 hu).1
    simp at hj
    rw [List.getElem?_take_of_lt (by omega),List.getElem?_drop] at hu
    rw [hadd,cOf hb]
    simpa using hu
 have hone':∀ v∈news,v.oneCell'=true:=fun v hv=>by
   rw [hnews] at hv
   split at hv
   ·cases hv
   ·exact hone v hv
 have hfc:=run_firstCells_some (P:=P) w i.size m ⟨g,so,none⟩ m c2 news hl hcell
 have hst:=run_storeCells_at P g (n0*i.size) tb news 0 cur w hb (by rw [hl,hs];rw [Nat.add_mul] at hfit;omega) hone'
 refine ⟨_,by simp [Builtin.append_,run_underlying ht,sizeOf,typeInfo,hi,Builtin.lenOf,hroom,hfc,Addr.add_lit,hst];rfl,?_,Turn.row _ _ _⟩
 rw [heap_setRow hb,hl,hs]
 simp
omit hi hs in
theorem clear_row (ty tb:TypeId) (g o c:Nat) (cur:Array Value) (w:World) (z:Value) (hz:(zeroValue e).run P w= .ok z w) (hzc:Builtin.zeroCells z.cells 1=z.cells) (hzo:∀ v∈z.cells.toList,v.oneCell'=true) (hb:w.heap[g]?=some (.cells cur tb (0,0))) (hfit:o+z.cells.size≤cur.size) :
    ∃ w1,(Builtin.clear_ #[t] ty #[.slice (some ⟨g,o,none⟩) 1 c]).run P w= .ok (.tuple #[]) w1∧w1.heap[g]?=some (.cells (cur.toList.take o ++ z.cells.toList ++ cur.toList.drop (o+z.cells.size)).toArray tb (0,0))∧Turn (fun k=>k=g) w w1:=by
 have hst:=run_storeCells_at P g o tb z.cells.toList 0 cur w hb (by simpa using hfit) hzo
 refine ⟨_,by simp [Builtin.clear_,run_underlying ht,hz,hzc,hst,Result.andThen];rfl,?_,Turn.row _ _ _⟩
 rw [heap_setRow hb]
 simp
end
end
section
open Go.RowKit
attribute [local go_sem ↓] Go.wp_at_zero Go.wp_at_succ
theorem step_append_run {P:Program} {ops:Array Oper} {o:Oper} {a:Act} {w:World} {K:Act→World→Prop} {Q:Exit→Act→World→Prop} {E:Prop} (hgd:o.guard=none) (s x:Operand) (t:TypeId)
    (ho:o.op= .call { callee:= .builtin .append,args:=#[s,x],argTypes:=#[t,t] }) (v1 v2 v:Value) (hs:a.eval s=v1) (hx:a.eval x=v2) (w':World) (hrun:(Builtin.append_ #[t,t] o.type #[v1,v2]).run P w= .ok v w') (h:K (a.put o.dst v) w') :
    if Region.wanted o (yielded ops a.tmps)=true then Oper.wp P o a w K Q else E:=by
 have hw:Region.wanted o (yielded ops a.tmps)=true:=by simp [Region.wanted,hgd]
 rw [if_pos hw]
 unfold Oper.wp
 simp [execOp,ho,resolve,invoke,builtin,hs,hx,hrun,Result.andThen,Oper.upon]
 exact h
theorem wpList_clear_run {P:Program} {ops:Array Oper} {rest:List Oper} {o:Oper} {a:Act} {w:World} {Q:Exit→Act→World→Prop} (hgd:o.guard=none) (s:Operand) (t:TypeId)
    (ho:o.op= .call { callee:= .builtin .clear,args:=#[s],argTypes:=#[t] }) (v1:Value) (hs:a.eval s=v1) (w':World) (hrun:(Builtin.clear_ #[t] o.type #[v1]).run P w= .ok (.tuple #[]) w') (h:wpList P ops Q rest (a.put o.dst (.tuple #[])) w') :
    wpList P ops Q (o :: rest) a w:=by
 refine wpList_plain hgd fun K' hK'=>?_
 unfold Oper.wp
 simp [execOp,ho,resolve,invoke,builtin,hs,hrun,Result.andThen]
 exact hK' _ _ h
theorem infoStr:(Tryz.prog.info? 9).map (fun i=>(i.zero,i.size,i.bytes))=some (some (.string ⟨#[]⟩),1,16):=by kernel_rfl
theorem z_str (w:World):(zeroValue 9).run Tryz.prog w= .ok (.string ⟨#[]⟩) w:=by kernel_rfl
theorem Delete_str (g n c i:Nat) (cur:Array Value) (w:World) (hb:w.heap[g]?=some (.cells cur 9 (0,0))) (hn:n≤c) (hc:cur.size=c*1) (hi:i<n) (hone:∀ v∈cur.toList.take (n*1),v.oneCell'=true) (hbig:n≤1000000000000) :
    Calls Tryz.prog 133 #[.slice (some ⟨g,0,none⟩) n c,.int .i64 (i:Int),.int .i64 ((i:Int)+1)] w fun r w'=>r= .returned (.slice (some ⟨g,0,none⟩) (n - 1) c)∧Turn (fun k=>k=g) w w'∧∃ cur',w'.heap[g]?=some (.cells cur' 9 (0,0))∧cur'.size=cur.size∧cur'.toList.take ((n - 1)*1)=cur.toList.take (i*1) ++ (cur.toList.drop ((i+1)*1)).take ((n - 1 - i)*1):=by
 obtain ⟨i0,hi0,hz0,hz1,hz2⟩:=info_parts infoStr
 have hU:=Tryz.underlying113
 have hlt:=heap_lt hb
 have ec:((i+1:Nat):Int)=(i:Int)+1:=by omega
 have es:i+(n - (i+1))=n - 1:=by omega
 have hs1:=sl_lhm (P:=Tryz.prog) (t:=113) hU hi0 hz1 g n c i (i+1) (by omega) (by omega) hn (by omega)
 have hs2:=sl_hi (P:=Tryz.prog) (t:=113) hU hi0 g n c i (by omega)
 have hs3:=sl_lo (P:=Tryz.prog) (t:=113) hU hi0 hz1 g n c (i+1) (by omega)
 have hs4:=sl_lh (P:=Tryz.prog) (t:=113) hU hi0 hz1 g (n - 1) c (n - 1) n (by omega) hn (by omega)
 rw [ec] at hs1 hs3
 generalize hso:(if c=i+1 then 0 else (i+1)*1)=so at *
 have hso2:(n - (i+1))*1≠0→so=(i+1)*1:=fun h=>by
   rw [← hso,if_neg]
   intro e
   exact h (by omega)
 obtain ⟨w1,hrun1,hb1,T1⟩:=append_row (P:=Tryz.prog) (t:=113) hU hi0 hz1 113 9 g i (n - (i+1)) c (c - (i+1)) so cur w.drew hb (by omega) (by rw [es,hc];exact Nat.mul_le_mul_right _ (by omega)) (fun h=>by rw [hso2 h,hc,← Nat.add_mul];exact Nat.mul_le_mul_right _ (by omega)) (fun v hv=>by
   by_cases h0:(n - (i+1))*1=0
   ·rw [h0] at hv;simp at hv
   ·rw [hso2 h0] at hv
    refine hone v ?_
    have:(cur.toList.drop ((i+1)*1)).take ((n - (i+1))*1)=(cur.toList.take (n*1)).drop ((i+1)*1):=by rw [List.drop_take];congr 1;omega
    rw [this] at hv
    exact List.mem_of_mem_drop hv)
 rw [es] at hrun1
 generalize hcur1:(cur.toList.take (i*1) ++ (if (n - (i+1))*1=0 then [] else (cur.toList.drop so).take ((n - (i+1))*1)) ++ cur.toList.drop (i*1+(n - (i+1))*1)).toArray=cur1 at *
 have hmid:(if (n - (i+1))*1=0 then [] else (cur.toList.drop so).take ((n - (i+1))*1))=(cur.toList.drop ((i+1)*1)).take ((n - 1 - i)*1):=by
   rw [show n - 1 - i=n - (i+1) by omega]
   split
   ·rename_i h0;rw [h0];simp
   ·rename_i h0;rw [hso2 h0]
 have hcl:cur.toList.length=c*1:=by simpa using hc
 have hsz1:cur1.size=cur.size:=by
   rw [← hcur1,hmid]
   simp only [List.size_toArray,List.length_append,List.length_take,List.length_drop,hcl,hc]
   omega
 have htk1:cur1.toList.take ((n - 1)*1)=cur.toList.take (i*1) ++ (cur.toList.drop ((i+1)*1)).take ((n - 1 - i)*1):=by
   rw [← hcur1,hmid]
   have hll:(cur.toList.take (i*1) ++ (cur.toList.drop ((i+1)*1)).take ((n - 1 - i)*1)).length=(n - 1)*1:=by
     simp only [List.length_append,List.length_take,List.length_drop,hcl]
     omega
   rw [← hll,List.toList_toArray]
   exact List.take_left ..
 obtain ⟨w2,hrun2,hb2,T2⟩:=clear_row (P:=Tryz.prog) (t:=113) hU 0 9 g ((n - 1)*1) (c - (n - 1)) cur1 w1 _ (z_str w1) (by kernel_rfl) (by simp [Value.cells,Value.oneCell']) hb1 (by rw [hsz1,hc];simp [Value.cells];omega)
 rw [Nat.mul_one] at hrun2
 have hone1:n - (n - 1)=1:=by omega
 rw [hone1] at hs4
 have hlen:((n - 1:Nat):Int)≤(n:Int):=by omega
 clear hone
 go_enter Tryz.func133,Tryz.ntmps133
 go_wp2
 go_region_held3 (fun w'=>Turn (fun k=>k=g) w w') ((go_split_ands;first|exact (Turn.refl _ _).sD|exact ((Turn.refl _ _).sD).sT T1 (fun _ _ h=>h))) ((refine step_append_run (by rfl) _ _ _ (by rfl) _ _ _ (by rfl) (by rfl) _ hrun1 ?_))
 go_wp2_with (first|(at_builtin;refine wpList_clear_run (by rfl) _ _ (by rfl) _ (by rfl) _ hrun2 ?_;go_frame)|go_in)
 go_ret
 refine ⟨rfl,((Turn.refl _ _).sD.sT T1 (fun _ _ h=>h)).sT T2 (fun _ _ h=>h),_,hb2,?_,?_⟩
 ·have hc1:cur1.toList.length=c*1:=by rw [Array.length_toList,hsz1,hc]
  rw [List.size_toArray,hc,List.length_append,List.length_append,List.length_take,List.length_drop,hc1]
  simp only [Value.cells,List.size_toArray,List.length_cons,List.length_nil]
  omega
 ·have hc1:cur1.toList.length=c*1:=by rw [Array.length_toList,hsz1,hc]
  rw [← htk1,List.toList_toArray,List.append_assoc]
  exact List.take_left' (by rw [List.length_take,hc1];omega)
theorem z_mes (w:World):(zeroValue 37).run Tryz.prog w= .ok (.agg #[.int .i64 0,.int .i64 0,.int .i64 0,.string ⟨#[]⟩,.int .i64 0,.int .i64 0,.int .i64 0,.int .i64 0,.string ⟨#[]⟩]) w:=by kernel_rfl
theorem Delete_mes (g n c i:Nat) (cur:Array Value) (w:World) (hb:w.heap[g]?=some (.cells cur 37 (0,0))) (hn:n≤c) (hc:cur.size=c*9) (hi:i<n) (hone:∀ v∈cur.toList.take (n*9),v.oneCell'=true) (hbig:n≤1000000000000) :
    Calls Tryz.prog 114 #[.slice (some ⟨g,0,none⟩) n c,.int .i64 (i:Int),.int .i64 ((i:Int)+1)] w fun r w'=>r= .returned (.slice (some ⟨g,0,none⟩) (n - 1) c)∧Turn (fun k=>k=g) w w'∧∃ cur',w'.heap[g]?=some (.cells cur' 37 (0,0))∧cur'.size=cur.size∧cur'.toList.take ((n - 1)*9)=cur.toList.take (i*9) ++ (cur.toList.drop ((i+1)*9)).take ((n - 1 - i)*9):=by
 obtain ⟨i0,hi0,hz0,hz1,hz2⟩:=info_parts infoMes
 have hU:=Tryz.underlying59
 have hlt:=heap_lt hb
 have ec:((i+1:Nat):Int)=(i:Int)+1:=by omega
 have es:i+(n - (i+1))=n - 1:=by omega
 have hs1:=sl_lhm (P:=Tryz.prog) (t:=59) hU hi0 hz1 g n c i (i+1) (by omega) (by omega) hn (by omega)
 have hs2:=sl_hi (P:=Tryz.prog) (t:=59) hU hi0 g n c i (by omega)
 have hs3:=sl_lo (P:=Tryz.prog) (t:=59) hU hi0 hz1 g n c (i+1) (by omega)
 have hs4:=sl_lh (P:=Tryz.prog) (t:=59) hU hi0 hz1 g (n - 1) c (n - 1) n (by omega) hn (by omega)
 rw [ec] at hs1 hs3
 generalize hso:(if c=i+1 then 0 else (i+1)*9)=so at *
 have hso2:(n - (i+1))*9≠0→so=(i+1)*9:=fun h=>by
   rw [← hso,if_neg]
   intro e
   exact h (by omega)
 obtain ⟨w1,hrun1,hb1,T1⟩:=append_row (P:=Tryz.prog) (t:=59) hU hi0 hz1 59 37 g i (n - (i+1)) c (c - (i+1)) so cur w.drew hb (by omega) (by rw [es,hc];exact Nat.mul_le_mul_right _ (by omega)) (fun h=>by rw [hso2 h,hc,← Nat.add_mul];exact Nat.mul_le_mul_right _ (by omega)) (fun v hv=>by
   by_cases h0:(n - (i+1))*9=0
   ·rw [h0] at hv;simp at hv
   ·rw [hso2 h0] at hv
    refine hone v ?_
    have:(cur.toList.drop ((i+1)*9)).take ((n - (i+1))*9)=(cur.toList.take (n*9)).drop ((i+1)*9):=by rw [List.drop_take];congr 1;omega
    rw [this] at hv
    exact List.mem_of_mem_drop hv)
 rw [es] at hrun1
 generalize hcur1:(cur.toList.take (i*9) ++ (if (n - (i+1))*9=0 then [] else (cur.toList.drop so).take ((n - (i+1))*9)) ++ cur.toList.drop (i*9+(n - (i+1))*9)).toArray=cur1 at *
 have hmid:(if (n - (i+1))*9=0 then [] else (cur.toList.drop so).take ((n - (i+1))*9))=(cur.toList.drop ((i+1)*9)).take ((n - 1 - i)*9):=by
   rw [show n - 1 - i=n - (i+1) by omega]
   split
   ·rename_i h0;rw [h0];simp
   ·rename_i h0;rw [hso2 h0]
 have hcl:cur.toList.length=c*9:=by simpa using hc
 have hsz1:cur1.size=cur.size:=by
   rw [← hcur1,hmid]
   simp only [List.size_toArray,List.length_append,List.length_take,List.length_drop,hcl,hc]
   omega
 have htk1:cur1.toList.take ((n - 1)*9)=cur.toList.take (i*9) ++ (cur.toList.drop ((i+1)*9)).take ((n - 1 - i)*9):=by
   rw [← hcur1,hmid]
   have hll:(cur.toList.take (i*9) ++ (cur.toList.drop ((i+1)*9)).take ((n - 1 - i)*9)).length=(n - 1)*9:=by
     simp only [List.length_append,List.length_take,List.length_drop,hcl]
     omega
   rw [← hll,List.toList_toArray]
   exact List.take_left ..
 obtain ⟨w2,hrun2,hb2,T2⟩:=clear_row (P:=Tryz.prog) (t:=59) hU 0 37 g ((n - 1)*9) (c - (n - 1)) cur1 w1 _ (z_mes w1) (by kernel_rfl) (by simp [Value.cells,Value.oneCell']) hb1 (by rw [hsz1,hc];simp [Value.cells];omega)
 have hone1:n - (n - 1)=1:=by omega
 rw [hone1] at hs4
 have hlen:((n - 1:Nat):Int)≤(n:Int):=by omega
 clear hone
 go_enter Tryz.func114,Tryz.ntmps114
 go_wp2
 go_region_held3 (fun w'=>Turn (fun k=>k=g) w w') ((go_split_ands;first|exact (Turn.refl _ _).sD|exact ((Turn.refl _ _).sD).sT T1 (fun _ _ h=>h))) ((refine step_append_run (by rfl) _ _ _ (by rfl) _ _ _ (by rfl) (by rfl) _ hrun1 ?_))
 go_wp2_with (first|(at_builtin;refine wpList_clear_run (by rfl) _ _ (by rfl) _ (by rfl) _ hrun2 ?_;go_frame)|go_in)
 go_ret
 refine ⟨rfl,((Turn.refl _ _).sD.sT T1 (fun _ _ h=>h)).sT T2 (fun _ _ h=>h),_,hb2,?_,?_⟩
 ·have hc1:cur1.toList.length=c*9:=by rw [Array.length_toList,hsz1,hc]
  rw [List.size_toArray,hc,List.length_append,List.length_append,List.length_take,List.length_drop,hc1]
  simp only [Value.cells,List.size_toArray,List.length_cons,List.length_nil]
  omega
 ·have hc1:cur1.toList.length=c*9:=by rw [Array.length_toList,hsz1,hc]
  rw [← htk1,List.toList_toArray,List.append_assoc]
  exact List.take_left' (by rw [List.length_take,hc1];omega)
end
section
open Go.RowKit
open Tier (Mes Ans Conf)
attribute [local go_sem ↓] Go.wp_at_zero Go.wp_at_succ
theorem Lies.usedCell {own:Own} {τ:Nat} {w:World} {bt:Nat} {g:Gh} {s:PS} (h:Lies own τ w bt g s) {n:Nat} (hn:n<6):w.cell? ⟨g.be,2+n,none⟩=some (g.u n):=by
  rw [cOf h.ents]
  match n,hn with
  | 0,_=>rfl
  | 1,_=>rfl
  | 2,_=>rfl
  | 3,_=>rfl
  | 4,_=>rfl
  | 5,_=>rfl
def setU (g:Gh) (n:Nat) (v:Value):Gh:={ g with u:=fun m=>if m=n then v else g.u m }
theorem entsC_set (s:PS) (g:Gh) {n:Nat} (hn:n<6) (v:Value):(entsC s g).setIfInBounds (2+n) v=entsC s (setU g n v):=by
  match n,hn with
  | 0,_=>rfl
  | 1,_=>rfl
  | 2,_=>rfl
  | 3,_=>rfl
  | 4,_=>rfl
  | 5,_=>rfl
theorem Lies.dropped {own:Own} {τ:Nat} {w w':World} {bt:Nat} {g:Gh} {s:PS} (h:Lies own τ w bt g s) {n:Nat} (hn:n<6) {k:ByteArray} {l:List ByteArray} {ub uc:Nat} {cur':Array Value} (hu:(g.u n).ownBlock=some ub)
    (hm:MapIs Tryz.prog 124 w' g.bf (rawL placeV entV (adel s.found (n,k)))) (hb:w'.heap[ub]?=some (.cells cur' 9 (0,0))) (hlc:l.length≤uc) (huc:uc≤maxLen) (hcs:cur'.size=uc*1) (htk:cur'.toList.take (l.length*1)=l.map Value.string)
    (he:w'.heap[g.be]?=some (.cells ((entsC s g).setIfInBounds (2+n) (.slice (some ⟨ub,0,none⟩) l.length uc)) 116 (0,0))) (hT:Turn (fun k'=>k'=g.bf∨k'=ub∨k'=g.be) w w') :
    Lies own τ w' bt (setU g n (.slice (some ⟨ub,0,none⟩) l.length uc)) { s with found:=adel s.found (n,k),used:=fun m=>if m=n then l else s.used m }∧Step τ own own w w':=by
 have ho:=(h.used n hn).mine ub hu
 have F:Fr (fun x=>x=5∨x=6∨x=7+n) own own τ w w':=by
   refine ⟨fun k' hk x hx ho'=>⟨hT.block k' hk ?_,rfl⟩⟩
   rintro (rfl|rfl|rfl)
   ·rw [h.foundO] at ho';cases ho';exact hx (by omega)
   ·rw [ho] at ho';cases ho';exact hx (by omega)
   ·rw [h.entsO] at ho';cases ho';exact hx (by omega)
 refine ⟨⟨fun k' hk=>h.top k' (Nat.le_trans hT.size hk),⟨F.block h.tierO (by omega) h.tier.block⟩,h.tierO,F.row h.pars (by omega),F.block h.origO (by omega) h.orig,h.origO,F.map h.recsO (by omega) h.recs,h.recsO,?_,h.entsO,hm,h.foundO,fun j hj=>?_,F.map h.ftsO (by omega) h.fts,h.ftsO,fun p hp=>F.row (h.waits p hp) (by omega),F.row h.net (by omega),F.row h.ans (by omega)⟩,⟨hT.mono (fun k' _ e=>e.elim (fun e=>⟨6,by rw [e];exact h.foundO⟩) (fun e=>e.elim (fun e=>⟨7+n,by rw [e];exact ho⟩) (fun e=>⟨5,by rw [e];exact h.entsO⟩))),fun _ _=>Or.inl rfl⟩⟩
 ·rw [entsC_set s g hn] at he;exact he
 ·by_cases e:j=n
  ·subst e
   simp only [setU,if_true]
   refine ⟨⟨by rw [flat_strings];simp,Or.inr ⟨ub,uc,cur',by simp,Nat.zero_le _,hb,by simpa using hlc,huc,hcs,?_⟩⟩,fun k' hk'=>by cases hk';exact ho⟩
   rw [flat_strings,List.length_map]
   exact htk
  ·simp only [setU,if_neg e]
   exact F.row (h.used j hj) (by omega)
def PS.makeRoom (s:PS) (n:Nat):PS :=
  if ((s.used n).length:Int)<s.c.entries then s
  else { s with found:=adel s.found (n,(s.used n).getLastD none8),used:=fun m=>if m=n then (s.used n).dropLast else s.used m }
theorem makeRoom_room (own:Own) (τ bt:Nat) (g:Gh) (s:PS) (n:Nat) (w:World) (h:Lies own τ w bt g s) (hn:n<6) (hl:((s.used n).length:Int)<s.c.entries) :
    Calls Tryz.prog 132 #[.pointer (some ⟨g.be,0,none⟩),.int .i64 (n:Int)] w fun r w'=>r= .returned (.tuple #[])∧w'=w:=by
 obtain ⟨ua,uc,hu⟩:=row_form (h.used n hn).row
 rw [List.length_map] at hu
 have dn:=h.usedCell hn
 rw [hu] at dn
 have d0:w.cell? ⟨g.be,0,none⟩=some (.int .i64 s.c.entries):=cOf h.ents 0
 clear h hu
 generalize (s.used n).length=ul at *
 generalize s.c.entries=en at *
 have i0:(0:Int)≤(n:Int):=by omega
 have i1:(n:Int)<6:=by omega
 go_enter Tryz.func132,Tryz.ntmps132
 go_wp2
 exact bodyPost_ret (v:= .tuple #[]) (by simp [results,Tryz.results132,go_sem]) rfl ⟨rfl,rfl⟩
theorem makeRoom_full (own:Own) (τ bt:Nat) (g:Gh) (s:PS) (n m:Nat) (k:ByteArray) (w:World) (h:Lies own τ w bt g s) (hn:n<6) (hul:(s.used n).length=m+1) (hm1:m+1≤1000) (hk:(s.used n)[m]?=some k) (hks:k.size≤100) (hl:¬ ((s.used n).length:Int)<s.c.entries) :
    Calls Tryz.prog 132 #[.pointer (some ⟨g.be,0,none⟩),.int .i64 (n:Int)] w fun r w'=>r= .returned (.tuple #[])∧∃ v,Lies own τ w' bt (setU g n v) { s with found:=adel s.found (n,k),used:=fun j=>if j=n then (s.used n).take m else s.used j }∧Step τ own own w w':=by
 have hrow:=(h.used n hn).row
 have hmine:=(h.used n hn).mine
 have hlen:((s.used n).map fun k=>[Value.string k]).length=m+1:=by simp [hul]
 rw [hlen,flat_strings] at hrow
 obtain ⟨hlf,⟨hv,h0⟩|⟨ub,uc,cur,hu,_,hub,hc1,hc2,hc3,hc4⟩⟩:=hrow
 ·omega
 have hmu:=hmine ub (by rw [hu];rfl)
 have dn:=h.usedCell hn
 rw [hu] at dn
 have d0:w.cell? ⟨g.be,0,none⟩=some (.int .i64 s.c.entries):=cOf h.ents 0
 have d1:w.cell? ⟨g.be,1,none⟩=some (.map (some g.bf)):=cOf h.ents 1
 have hbe:g.be<w.heap.size:=heap_lt h.ents
 have hbf:g.bf<w.heap.size:=h.found.lt
 have hublt:ub<w.heap.size:=heap_lt hub
 have hbu:g.be≠ub:=fun e=>by have:=h.entsO;rw [e,hmu] at this;injection this with this;injection this with _ this;omega
 have hfu:g.bf≠ub:=fun e=>by have:=h.foundO;rw [e,hmu] at this;injection this with this;injection this with _ this;omega
 have hfe:g.bf≠g.be:=fun e=>by have:=h.foundO;rw [e,h.entsO] at this;cases this
 have dk:w.cell? ⟨ub,m,none⟩=some (.string k):=by
   rw [cOf hub]
   have:cur.toList[m]?=some (.string k):=by
     have h1:(cur.toList.take ((m+1)*1))[m]?=some (.string k):=by rw [hc4];simp [hk]
     rwa [List.getElem?_take_of_lt (by omega)] at h1
   simpa using this
 have hone:∀ v∈cur.toList.take ((m+1)*1),v.oneCell'=true:=fun v hv=>by
   rw [hc4] at hv
   obtain ⟨z,_,rfl⟩:=List.mem_map.1 hv
   rfl
 obtain ⟨kl,hkey⟩:=placeKey (p:=(n,k)) (by omega) hks
 obtain ⟨w1,hrun1,hmap1,ht1⟩:=map_del (w:=w.drew) (h.found.heap rfl) placeKeyed Tryz.underlying112 placeV_inj hkey 0
 have hgrow:=ht1.grown
 have T1:=Turn.grown hgrow
 simp only [placeV] at hrun1
 have hub1:w1.heap[ub]?=some (.cells cur 9 (0,0)):=(T1.block ub hublt (fun e=>hfu (Option.some.inj e).symm)).trans hub
 have KD:=hide (fun w (hb:w.heap[ub]?=some (.cells cur 9 (0,0)))=>Delete_str ub (m+1) uc m cur w hb hc1 hc3 (by omega) hone (by omega))
 have HFIN:=hide (And.intro h (And.intro hu (And.intro hc2 (And.intro hc3 (And.intro hc4 hmap1)))))
 have e1:w1.cell? ⟨g.be,2+n,none⟩=some (.slice (some ⟨ub,0,none⟩) (m+1) uc):=T1.cell (w:=w.drew) dn (fun e=>hfe (Option.some.inj e).symm)
 have e2:w1.heap[g.be]?=some (.cells (entsC s g) 116 (0,0)):=(T1.block g.be hbe (fun e=>hfe (Option.some.inj e).symm)).trans h.ents
 have i0:(0:Int)≤(n:Int):=by omega
 have i1:(n:Int)<6:=by omega
 have i2:(0:Int)≤(m:Int):=by omega
 have i3:(m:Int)<((m+1:Nat):Int):=by omega
 have i4:(m:Int)<(m:Int)+1:=by omega
 have hw1:IntKind.i64.wrap (((m+1:Nat):Int) - 1)=(m:Int):=by rw [IntKind.wrap_i64];omega
 have hw2:IntKind.i64.wrap ((m:Int)+1)=(m:Int)+1:=by rw [IntKind.wrap_i64];omega
 rw [hul] at hl
 generalize hen:s.c.entries=en at *
 clear hlf hc4 hone hmine hmap1 ht1
 go_enter Tryz.func132,Tryz.ntmps132
 go_wp2
 have hq0:Hid (∀ k',some k'=some g.bf→k'≠ub∧k'≠g.be):=fun k' e=>by cases e;exact ⟨hfu,hfe⟩
 have HS:∀ w',Turn (fun k'=>k'=0∧False∨some k'=some g.bf) w w'→Turn (fun k'=>k'=0∧False∨some k'=some g.bf) w w'∧w'.cell? ⟨g.be,1,none⟩=some (.map (some g.bf))∧w'.cell? ⟨ub,m,none⟩=some (.string k) :=
   fun w' T=>⟨T,T.cell d1 (fun h=>h.elim (fun e=>e.2) (fun e=>(uH hq0 _ e).2 rfl)),T.cell dk (fun h=>h.elim (fun e=>e.2) (fun e=>(uH hq0 _ e).1 rfl))⟩
 go_region_held3 (fun w'=>Turn (fun k'=>k'=0∧False∨some k'=some g.bf) w w'∧w'.cell? ⟨g.be,1,none⟩=some (.map (some g.bf))∧w'.cell? ⟨ub,m,none⟩=some (.string k)) ((go_split_ands;apply HS;all_goals (repeat (first|(with_reducible first|assumption|exact Turn.refl _ _|apply Turn.sA|apply Turn.sD|refine tN ?_ (by assumption))|((with_reducible refine Turn.sS ?_ ?_);rotate_left;· first|exact Or.inr rfl|exact Or.inr (Or.inl rfl)|exact Or.inl (by simp <;> omega))|(with_reducible refine tG ?_ (by assumption))|(with_reducible first|apply There.drew|apply There.set|refine hNo ?_ (by assumption))|assumption)))) (fail)
 go_split_ands
 clear HS
 have e3:w1.frozen? ⟨g.be,2+n,none⟩=false:=fOf e2 _
 have T01:Turn (fun k'=>k'=g.bf) w w1:=((Turn.refl (fun k'=>k'=g.bf) w).sD).sT T1 (fun _ _ e=>Option.some.inj e)
 have KT:=hide (And.intro T01 e2)
 clear hrun1 T1 e2 T01 d0 d1 dn dk hgrow h hub
 go_wp2
 go_region_held3 (fun w'=>Turn (fun k'=>k'=ub∨k'=g.be) w1 w')
   ((first|exact (Turn.refl _ _).sD|exact Turn.sS (Turn.sT ((Turn.refl _ _).sD) T2 (fun _ _ e=>Or.inl e)) (Or.inr (Or.inr rfl))|exact Turn.sT ((Turn.refl _ _).sD) T2 (fun _ _ e=>Or.inl e)))
   (first|(go_at_call 133;refine (uH KD w1.drew hub1).mono ?_;rintro e w2 ⟨rfl,T2,cur2,hb2,hcs2,htk2⟩;have q1:=T2.cell (w:=w1.drew) e1 hbu;have q2:=T2.froz (w:=w1.drew) e1 hbu e3))
 go_wp2
 go_end0
 obtain ⟨h,hu,hc2,hc3,hc4,hmap1⟩:=uH HFIN
 obtain ⟨T01,e2⟩:=uH KT
 have hne:g.be≠ub:=hbu
 have heb:w2.heap[g.be]?=some (.cells (entsC s g) 116 (0,0)):=(T2.block g.be (by show g.be<w1.heap.size;exact heap_lt e2) hbu).trans e2
 have hml:((s.used n).take m).length=m:=by simp [hul]
 have hD:=h.dropped hn (k:=k) (l:=(s.used n).take m) (ub:=ub) (uc:=uc) (cur':=cur2) (w':=w2.setCell ⟨g.be,2+n,none⟩ (.slice (some ⟨ub,0,none⟩) m uc)) (by rw [hu];rfl)
   (hmap1.heap (by rw [hSO hfe];exact T2.block g.bf (by show g.bf<w1.heap.size;exact hmap1.lt) hfu))
   (by rw [hSO (Ne.symm hbu)];exact hb2) (by rw [hml];omega) hc2 (by rw [hcs2,hc3]) (by
     rw [hml]
     have e4:(m+1 - 1)*1=m*1:=by omega
     rw [e4] at htk2
     rw [htk2,show (m+1 - 1 - m)*1=0 by omega,List.take_zero,List.append_nil]
     have h5:=congrArg (List.take m) hc4
     rw [List.take_take,Nat.min_eq_left (by omega)] at h5
     rw [Nat.mul_one,h5,List.map_take]) (by rw [heap_set heb,hml])
   (by
     refine Turn.sS (Turn.sT (Turn.sD (T01.mono (fun _ _ e=>Or.inl e))) T2 (fun _ _ e=>Or.inr (Or.inl e))) (Or.inr (Or.inr (Or.inr rfl))))
 rw [hml] at hD
 exact ⟨rfl,_,hD.1,hD.2⟩
end
end Go.Proofs.YtpdkojgepagbnaaGreatDoor
