/-
  A script, opened: every step's cells, each read; what its bulk bounds.
-/
import Derived.Test.YtpdkojgepagbnaaGreatDoorCards
import Derived.Test.YtpdkojgepagbnaaGreatDoorJ46
import Derived.ProofKit
import Derived.OpenShut
import Derived.Deep.Slices
import Derived.Lib.SmallJoins
set_option maxRecDepth 100000
set_option maxHeartbeats 8000000
namespace Go.Proofs.YtpdkojgepagbnaaGreatDoor.openf
open Go.ChangeShapes Go.WideShapes Go.ChangeAt Go.RowKit
theorem one_le {H:Type} (d:DataW H):1≤Rows.uptoBulk d:=by
  cases d with
  | lit l=>cases l <;> simp [Rows.uptoBulk]
  | nil=>simp [Rows.uptoBulk]
  | ptr d=>simp [Rows.uptoBulk]
  | slice elems spare=>simp [Rows.uptoBulk]
  | agg parts=>simp [Rows.uptoBulk]
  | iface t d=>simp [Rows.uptoBulk]
  | map entries=>simp [Rows.uptoBulk]
  | held h=>simp [Rows.uptoBulk]
theorem part_le {H:Type} {d:DataW H} {l:List (DataW H)} (h:d∈l):Rows.uptoBulk d≤Rows.uptoBulkAll l:=by
  induction l with
  | nil=>cases h
  | cons x r ih =>
    simp only [Rows.uptoBulkAll]
    cases List.mem_cons.1 h with
    | inl e=>subst e;omega
    | inr e=>have:=ih e;omega
theorem length_le {H:Type} (l:List (DataW H)):l.length≤Rows.uptoBulkAll l:=by
  induction l with
  | nil=>simp [Rows.uptoBulkAll]
  | cons x r ih=>have:=one_le x;simp only [Rows.uptoBulkAll,List.length_cons];omega
theorem slice_le {H:Type} (elems spare:List (DataW H)):elems.length≤Rows.uptoBulk (.slice elems spare):=by
  have h1:=length_le elems
  simp only [Rows.uptoBulk]
  omega
theorem agg_le {H:Type} {d:DataW H} {l:List (DataW H)} (h:d∈l):Rows.uptoBulk d≤Rows.uptoBulk (.agg l):=by
  have:=part_le h
  simp only [Rows.uptoBulk]
  omega
theorem bound {H:Type} {l:List (DataW H)} (hk:Rows.uptoSmall H l=true):Rows.uptoBulkAll l≤1048576:=of_decide_eq_true hk
theorem many_le {H:Type} {k:Nat} (l:List (DataW H)) (h:∀ d∈l,k≤Rows.uptoBulk d):k*l.length≤Rows.uptoBulkAll l:=by
  induction l with
  | nil=>simp [Rows.uptoBulkAll]
  | cons x r ih =>
    have h1:=h x List.mem_cons_self
    have h2:=ih (fun d hd=>h d (List.mem_cons_of_mem _ hd))
    simp only [Rows.uptoBulkAll,List.length_cons,Nat.mul_add,Nat.mul_one]
    omega
theorem slice_many {H:Type} {k:Nat} (elems spare:List (DataW H)) (h:∀ d∈elems,k≤Rows.uptoBulk d):k*elems.length≤Rows.uptoBulk (.slice elems spare):=by
  have h1:=many_le elems h
  simp only [Rows.uptoBulk]
  omega
theorem cellsL:Tryz.prog.cellsOf 33=1:=by kernel_rfl
theorem cellsN:Tryz.prog.cellsOf 3=1:=by kernel_rfl
theorem cellsS:Tryz.prog.cellsOf 9=1:=by kernel_rfl
theorem cellsC:Tryz.prog.cellsOf 35=5:=by kernel_rfl
theorem cellsM:Tryz.prog.cellsOf 37=9:=by kernel_rfl
theorem cellsO:Tryz.prog.cellsOf 39=20:=by kernel_rfl
variable {H:Type} {enc:TypeId × Value→H} {W:World}
theorem ints_of {n:Nat} {c:Value} {y:DataW H × List MemPlace} (h:DataW.trod enc Tryz.prog W 0 (fun _=>true) true n 33 [c]=some y) :
    ∃ (a:Option Addr) (cap:Nat) (zs:List Int),c= .slice a zs.length cap∧SliceAt W a zs∧zs.length≤Rows.uptoBulk y.1:=by
 rcases open_ints Tryz.underlying33 Tryz.underlying3 cellsN h with ⟨hcs,_⟩|⟨a,len,cap,zs,hcs,_,hl,hm,hz,hy,hcell,_⟩
 ·simp only [List.cons.injEq,and_true] at hcs
  subst hcs
  exact ⟨none,0,[],rfl,fun h=>by simp at h,by simp⟩
 ·simp only [List.cons.injEq,and_true] at hcs
  subst hcs
  have hz':zs.length=cap:=by simpa using hz
  have hlt:(zs.take len).length=len:=by rw [List.length_take];omega
  refine ⟨some a,cap,zs.take len,by rw [hlt],?_,?_⟩
  ·intro hp
   obtain ⟨b,off,rfl,hc⟩:=ints_at hcell (by omega)
   refine ⟨b,off,rfl,fun j hj=>?_⟩
   have hj':j<len:=by omega
   rw [hc j (by omega),List.getD_eq_getElem?_getD,List.getD_eq_getElem?_getD,List.getElem?_take_of_lt hj']
  ·have:=slice_le (lits (H:=H) .i64 (zs.take len)) (lits (H:=H) .i64 (zs.drop len))
   rw [hy]
   simpa [lits] using this
theorem op_of {n:Nat} {a:Addr} {cs:List Value} {x:DataW H × List MemPlace} (h1:W.cells? 0 a 20=some cs) (h2:DataW.trod enc Tryz.prog W 0 (fun _=>true) true n 39 cs=some x) :
    ∃ o:OpD,cs=o.cells.toList∧inI64 o.on∧o.s.size≤maxLen∧o.t.size≤maxLen∧o.m.key.size≤maxLen∧SliceAt W o.pa o.zs∧o.zs.length≤Rows.uptoBulk x.1∧8≤Rows.uptoBulk x.1:=by
 obtain ⟨_,hlen,_⟩:=World.cells?_some h1
 match cs,hlen with
 | [c0,c1,c2,c3,c4,c5,c6,c7,c8,c9,c10,c11,c12,c13,c14,c15,c16,c17,c18,c19],_ =>
   obtain ⟨xs,m,_,hx,_,hl,hfl⟩:=DataW.trod_struct Tryz.underlying39 h2
   obtain ⟨y0,y1,y2,y3,y4,y5,y6,y7,rfl⟩:∃ y0 y1 y2 y3 y4 y5 y6 y7,xs=[y0,y1,y2,y3,y4,y5,y6,y7]:=by
     match xs,hl with
     | [y0,y1,y2,y3,y4,y5,y6,y7],_=>exact ⟨y0,y1,y2,y3,y4,y5,y6,y7,rfl⟩
   have f0:DataW.trod enc Tryz.prog W 0 (fun _=>true) true m 3 [c0]=some y0:=by simpa [cellsN] using hfl 0 _ rfl
   have f1:DataW.trod enc Tryz.prog W 0 (fun _=>true) true m 3 [c1]=some y1:=by simpa [cellsN] using hfl 1 _ rfl
   have f2:DataW.trod enc Tryz.prog W 0 (fun _=>true) true m 3 [c2]=some y2:=by simpa [cellsN] using hfl 2 _ rfl
   have f3:DataW.trod enc Tryz.prog W 0 (fun _=>true) true m 3 [c3]=some y3:=by simpa [cellsN] using hfl 3 _ rfl
   have f4:DataW.trod enc Tryz.prog W 0 (fun _=>true) true m 9 [c4]=some y4:=by simpa [cellsS] using hfl 4 _ rfl
   have f5:DataW.trod enc Tryz.prog W 0 (fun _=>true) true m 9 [c5]=some y5:=by simpa [cellsS] using hfl 5 _ rfl
   have f6:DataW.trod enc Tryz.prog W 0 (fun _=>true) true m 35 [c6,c7,c8,c9,c10]=some y6:=by simpa [cellsC] using hfl 6 _ rfl
   have f7:DataW.trod enc Tryz.prog W 0 (fun _=>true) true m 37 [c11,c12,c13,c14,c15,c16,c17,c18,c19]=some y7:=by simpa [cellsM] using hfl 7 _ rfl
   clear hfl
   obtain ⟨kd,e0,_,_⟩:=DataW.trod_int Tryz.underlying3 f0
   obtain ⟨on,e1,_,w1⟩:=DataW.trod_int Tryz.underlying3 f1
   obtain ⟨oa,e2,_,_⟩:=DataW.trod_int Tryz.underlying3 f2
   obtain ⟨ob,e3,_,_⟩:=DataW.trod_int Tryz.underlying3 f3
   obtain ⟨os,e4,_,w4⟩:=DataW.trod_string Tryz.underlying9 f4
   obtain ⟨ot,e5,_,w5⟩:=DataW.trod_string Tryz.underlying9 f5
   simp only [List.cons.injEq,and_true] at e0 e1 e2 e3 e4 e5
   subst e0 e1 e2 e3 e4 e5
   obtain ⟨zs6,n6,_,hx6,_,hl6,hf6⟩:=DataW.trod_struct Tryz.underlying35 f6
   obtain ⟨p0,p1,p2,p3,p4,rfl⟩:∃ p0 p1 p2 p3 p4,zs6=[p0,p1,p2,p3,p4]:=by
     match zs6,hl6 with
     | [p0,p1,p2,p3,p4],_=>exact ⟨p0,p1,p2,p3,p4,rfl⟩
   have g0:DataW.trod enc Tryz.prog W 0 (fun _=>true) true n6 33 [c6]=some p0:=by simpa [cellsL] using hf6 0 _ rfl
   have g1:DataW.trod enc Tryz.prog W 0 (fun _=>true) true n6 3 [c7]=some p1:=by simpa [cellsN] using hf6 1 _ rfl
   have g2:DataW.trod enc Tryz.prog W 0 (fun _=>true) true n6 3 [c8]=some p2:=by simpa [cellsN] using hf6 2 _ rfl
   have g3:DataW.trod enc Tryz.prog W 0 (fun _=>true) true n6 3 [c9]=some p3:=by simpa [cellsN] using hf6 3 _ rfl
   have g4:DataW.trod enc Tryz.prog W 0 (fun _=>true) true n6 3 [c10]=some p4:=by simpa [cellsN] using hf6 4 _ rfl
   clear hf6
   obtain ⟨dr,i1,_,_⟩:=DataW.trod_int Tryz.underlying3 g1
   obtain ⟨bu,i2,_,_⟩:=DataW.trod_int Tryz.underlying3 g2
   obtain ⟨en,i3,_,_⟩:=DataW.trod_int Tryz.underlying3 g3
   obtain ⟨wa,i4,_,_⟩:=DataW.trod_int Tryz.underlying3 g4
   simp only [List.cons.injEq,and_true] at i1 i2 i3 i4
   subst i1 i2 i3 i4
   obtain ⟨pa,pc,zs,rfl,hs,hz⟩:=ints_of g0
   obtain ⟨zs7,n7,_,hx7,_,hl7,hf7⟩:=DataW.trod_struct Tryz.underlying37 f7
   obtain ⟨q0,q1,q2,q3,q4,q5,q6,q7,q8,rfl⟩:∃ q0 q1 q2 q3 q4 q5 q6 q7 q8,zs7=[q0,q1,q2,q3,q4,q5,q6,q7,q8]:=by
     match zs7,hl7 with
     | [q0,q1,q2,q3,q4,q5,q6,q7,q8],_=>exact ⟨q0,q1,q2,q3,q4,q5,q6,q7,q8,rfl⟩
   have k0:DataW.trod enc Tryz.prog W 0 (fun _=>true) true n7 3 [c11]=some q0:=by simpa [cellsN] using hf7 0 _ rfl
   have k1:DataW.trod enc Tryz.prog W 0 (fun _=>true) true n7 3 [c12]=some q1:=by simpa [cellsN] using hf7 1 _ rfl
   have k2:DataW.trod enc Tryz.prog W 0 (fun _=>true) true n7 3 [c13]=some q2:=by simpa [cellsN] using hf7 2 _ rfl
   have k3:DataW.trod enc Tryz.prog W 0 (fun _=>true) true n7 9 [c14]=some q3:=by simpa [cellsS] using hf7 3 _ rfl
   have k4:DataW.trod enc Tryz.prog W 0 (fun _=>true) true n7 3 [c15]=some q4:=by simpa [cellsN] using hf7 4 _ rfl
   have k5:DataW.trod enc Tryz.prog W 0 (fun _=>true) true n7 3 [c16]=some q5:=by simpa [cellsN] using hf7 5 _ rfl
   have k6:DataW.trod enc Tryz.prog W 0 (fun _=>true) true n7 3 [c17]=some q6:=by simpa [cellsN] using hf7 6 _ rfl
   have k7:DataW.trod enc Tryz.prog W 0 (fun _=>true) true n7 3 [c18]=some q7:=by simpa [cellsN] using hf7 7 _ rfl
   have k8:DataW.trod enc Tryz.prog W 0 (fun _=>true) true n7 9 [c19]=some q8:=by simpa [cellsS] using hf7 8 _ rfl
   clear hf7
   obtain ⟨m0,j0,_,_⟩:=DataW.trod_int Tryz.underlying3 k0
   obtain ⟨m1,j1,_,_⟩:=DataW.trod_int Tryz.underlying3 k1
   obtain ⟨m2,j2,_,_⟩:=DataW.trod_int Tryz.underlying3 k2
   obtain ⟨m3,j3,_,v3⟩:=DataW.trod_string Tryz.underlying9 k3
   obtain ⟨m4,j4,_,_⟩:=DataW.trod_int Tryz.underlying3 k4
   obtain ⟨m5,j5,_,_⟩:=DataW.trod_int Tryz.underlying3 k5
   obtain ⟨m6,j6,_,_⟩:=DataW.trod_int Tryz.underlying3 k6
   obtain ⟨m7,j7,_,_⟩:=DataW.trod_int Tryz.underlying3 k7
   obtain ⟨m8,j8,_,_⟩:=DataW.trod_string Tryz.underlying9 k8
   simp only [List.cons.injEq,and_true] at j0 j1 j2 j3 j4 j5 j6 j7 j8
   subst j0 j1 j2 j3 j4 j5 j6 j7 j8
   have hd:x.1= .agg [y0.1,y1.1,y2.1,y3.1,y4.1,y5.1,y6.1,y7.1]:=by simpa using congrArg Prod.fst hx
   have hd6:y6.1= .agg [p0.1,p1.1,p2.1,p3.1,p4.1]:=by simpa using congrArg Prod.fst hx6
   refine ⟨⟨kd,on,oa,ob,os,ot,pa,pc,zs,dr,bu,en,wa,⟨m0,m1,m2,m3,m4,m5,m6,m7,m8⟩⟩,rfl,bounds_i64 w1,w4,w5,v3,hs,?_,?_⟩
   ·refine Nat.le_trans hz (Nat.le_trans (Nat.le_trans (agg_le (l:=[p0.1,p1.1,p2.1,p3.1,p4.1]) List.mem_cons_self) (by rw [← hd6];exact Nat.le_refl _)) ?_)
    rw [hd]
    exact agg_le (by simp)
   ·have:=length_le [y0.1,y1.1,y2.1,y3.1,y4.1,y5.1,y6.1,y7.1]
    rw [hd]
    simp only [Rows.uptoBulk]
    have h8:[y0.1,y1.1,y2.1,y3.1,y4.1,y5.1,y6.1,y7.1].length=8:=rfl
    omega
theorem ops_of {n:Nat} {c:Value} {y:DataW H × List MemPlace} (h:DataW.trod enc Tryz.prog W 0 (fun _=>true) true n 22 [c]=some y) (hb:Rows.uptoBulk y.1≤1048576) :
    ∃ (a:Option Addr) (cap:Nat) (l:List OpD),c= .slice a l.length cap∧OpsAt W a l∧l.length≤150000:=by
 rcases Go.Deep.open_slice Tryz.underlying22 h with ⟨hcs,_⟩|⟨a,len,cap,m,k,D,Pl,hcs,_,hl,hm,hmm,rfl,hx⟩
 ·simp only [List.cons.injEq,and_true] at hcs
  subst hcs
  exact ⟨none,0,[],rfl,⟨fun j o h=>by simp at h,fun o h=>by (cases h)⟩,by simp⟩
 ·simp only [List.cons.injEq,and_true] at hcs
  subst hcs
  have hmm:m=cap:=hmm
  have hbulk:∀ i,i<len→Rows.uptoBulk (D i)≤1048576:=fun i hi=>by
    refine Nat.le_trans (part_le (l:=(List.range len).map D) (List.mem_map.2 ⟨i,List.mem_range.2 hi,rfl⟩)) (Nat.le_trans ?_ hb)
    simp only [Rows.uptoBulk]
    omega
  have one:∀ i,i<len→∃ o:OpD,(∀ p v,o.cells.toList[p]?=some v→W.cell? ((a.add (i*20)).add p)=some v)∧OpOK W o∧8≤Rows.uptoBulk (D i):=fun i hi=>by
    obtain ⟨cs',h1,h2⟩:=hx i (by omega)
    rw [cellsO] at h1
    obtain ⟨o,rfl,r1,r2,r3,r4,r5,r6,r7⟩:=op_of h1 h2
    obtain ⟨_,hlen,hc⟩:=World.cells?_some h1
    refine ⟨o,fun p v hv=>?_,⟨r1,r2,r3,r4,Nat.le_trans r6 (Nat.le_trans (hbulk i hi) (by decide)),r5⟩,r7⟩
    have hp:p<20:=by have:=(List.getElem?_eq_some_iff.1 hv).1;omega
    rw [hc p hp,hv]
  have pick:∃ O:Nat→OpD,∀ i,i<len→(∀ p v,(O i).cells.toList[p]?=some v→W.cell? ((a.add (i*20)).add p)=some v)∧OpOK W (O i)∧8≤Rows.uptoBulk (D i):=by
    refine ⟨fun i=>if h:i<len then Classical.choose (one i h) else ⟨0,0,0,0,.empty,.empty,none,0,[],0,0,0,0,⟨0,0,0,.empty,0,0,0,0,.empty⟩⟩,fun i hi=>?_⟩
    dsimp only
    rw [dif_pos hi]
    exact Classical.choose_spec (one i hi)
  obtain ⟨O,hO⟩:=pick
  have hlen:((List.range len).map O).length=len:=by simp
  refine ⟨some a,cap,(List.range len).map O,by rw [hlen],⟨fun j o hj=>?_,fun o ho=>?_⟩,?_⟩
  ·have hjl:j<len:=by
     have:=(List.getElem?_eq_some_iff.1 hj).1
     omega
   have ho:O j=o:=by simpa [hjl] using hj
   subst ho
   obtain ⟨hc,_⟩:=hO j hjl
   obtain ⟨b,off,spot⟩:=a
   have hspot:spot=none:=by simpa [Addr.add] using World.cell?_spot ((hO 0 (by omega)).1 0 _ rfl)
   subst hspot
   refine ⟨b,off,rfl,fun p v hv=>?_⟩
   have:=hc p v hv
   simp only [add_plain] at this
   exact this
  ·obtain ⟨i,hi,rfl⟩:=List.mem_map.1 ho
   exact (hO i (List.mem_range.1 hi)).2.1
  ·have:=slice_many (k:=8) ((List.range len).map D) ((List.range (m - len)).map fun j=>D (len+j)) (fun d hd=>by
     obtain ⟨i,hi,rfl⟩:=List.mem_map.1 hd
     exact (hO i (List.mem_range.1 hi)).2.2)
   rw [hlen]
   have h2:((List.range len).map D).length=len:=by simp
   rw [h2] at this
   have h3:=Nat.le_trans this hb
   omega
end Go.Proofs.YtpdkojgepagbnaaGreatDoor.openf
