/-
  What the caller of Right does beside it: a list of its own with one number more behind its end is lent, and looked at and written over when it comes back.
  What the caller does with the list when it comes back: it reads as it was lent; then the caller writes over it.
-/
import Derived.Test.YtpdkojgepagbnaaGreatDoorJ02
import Derived.Laws.CopyOwn
import Derived.Deep.OwnRows
namespace Go.Proofs.YtpdkojgepagbnaaGreatDoor
set_option maxRecDepth 100000
set_option maxHeartbeats 8000000
section
open Go.RowKit Go.Deep
theorem info3:(Tryz.prog.info? 3).map (fun i=>(i.zero,i.size,i.bytes))=some (some (.int .i64 0),1,8):=by kernel_rfl
theorem size3:(Tryz.prog.info? 3).map (·.size)=some 1:=by kernel_rfl
def intCells (zs:List Int):List Value:=zs.map (.int .i64 ·)
def zeros (n:Nat):List Value:=List.replicate n (.int .i64 0)
theorem made_cells (n:Nat):madeCells #[Value.int .i64 0] n=(zeros n).toArray:=by
  have:=toList_madeCells_one (.int .i64 0) n
  rw [zeros,← this]
def copied (zs:List Int):Array Value:=(intCells zs ++ [Value.int .i64 0]).toArray
def lentCells (zs:List Int):Array Value:=(intCells (zs ++ [-77])).toArray
theorem lent_of (zs:List Int):(copied zs).setIfInBounds zs.length (.int .i64 (-77))=lentCells zs:=by
  simp [copied,lentCells,intCells]
theorem copied_at (zs:List Int) (w:World):(w.alloc (.cells (copied zs) 3)).cell? ⟨w.heap.size,zs.length,none⟩=some (.int .i64 0):=by
  rw [World.cell?_alloc_new]
  simp [copied,intCells]
theorem copied_at' (zs:List Int) (w:World) (n:Nat) (hn:n=w.heap.size):(w.alloc (.cells (copied zs) 3)).cell? ⟨n,zs.length,none⟩=some (.int .i64 0):=by
  subst hn;exact copied_at zs w
theorem heap_alloc_new {g:Nat} (w:World) (o:Obj) (hg:g=w.heap.size):(w.alloc o).heap[g]?=some o:=by
  subst hg
  show (w.heap.push o)[w.heap.size]?=_
  simp
theorem setRow_alloc (w:World) (g:Nat) (c c':Array Value) (t:TypeId) (hg:g=w.heap.size):(w.alloc (.cells c t)).setRow g c'=w.alloc (.cells c' t):=by
  subst hg
  unfold World.setRow World.alloc
  congr 1
  apply Array.ext
  ·simp
  ·intro i h1 h2
   simp only [Array.getElem_modify,Array.getElem_push]
   split
   ·next h=>subst h;simp
   ·next h =>
    have hi:i<w.heap.size:=by simp at h2;omega
    simp [hi]
theorem run_copy_new (w:World) (g:Nat) (hg:g=w.heap.size) (a:Option Addr) (cap:Nat) (zs:List Int) (hs:SliceAt w a zs) :
    Sem.run Tryz.prog (Builtin.copy_ #[33,33] 3 #[.slice (some ⟨g,0,none⟩) (zs.length+1) (zs.length+1),.slice a zs.length cap]) (w.alloc (.cells (zeros (zs.length+1)).toArray 3)) =
      .ok (goInt zs.length) (w.alloc (.cells (copied zs) 3)):=by
 by_cases h0:zs.length=0
 ·have hnil:zs=[]:=List.eq_nil_of_length_eq_zero h0
  subst hnil
  have:=run_copy_none (P:=Tryz.prog) (w.alloc (.cells (zeros (0+1)).toArray 3)) 33 33 3 3 (some ⟨g,0,none⟩) a (0+1) (0+1) 0 cap Tryz.underlying33 size3 rfl
  simpa [copied,intCells,zeros] using this
 ·obtain ⟨b,off,rfl,hr⟩:=hs (by omega)
  have hrow:=run_copy_row (P:=Tryz.prog) (w.alloc (.cells (zeros (zs.length+1)).toArray 3)) 33 33 3 3 g 0 (zs.length+1) (zs.length+1) ⟨b,off,none⟩ zs.length cap (zeros (zs.length+1)).toArray 3 (intCells zs)
    Tryz.underlying33 size3 (heap_alloc_new w _ hg) (by simp [intCells])
    (fun j v hv=>by
      have hj:j<zs.length:=by
        have:=(List.getElem?_eq_some_iff.1 hv).1
        simpa [intCells] using this
      have hc:=cell_later (below_alloc1 w (.cells (zeros (zs.length+1)).toArray 3)) (hr j hj)
      have hv':v= .int .i64 (zs.getD j 0):=by
        simp only [intCells,List.getElem?_map] at hv
        rw [List.getElem?_eq_getElem hj] at hv
        simp at hv
        rw [← hv,List.getD_eq_getElem?_getD,List.getElem?_eq_getElem hj];rfl
      rw [hv']
      rw [Go.WideShapes.add_plain]
      exact hc)
    (by simp [intCells,zeros]) (by intro v hv;simp [intCells] at hv;obtain ⟨x,_,rfl⟩:=hv;rfl)
  rw [hrow,setRow_alloc _ _ _ _ _ hg]
  have e1:(List.take 0 (zeros (zs.length+1)).toArray.toList ++ intCells zs ++ List.drop (0+(intCells zs).length) (zeros (zs.length+1)).toArray.toList).toArray=copied zs:=by
    simp [intCells,zeros,copied]
  rw [e1]
  simp [intCells]
theorem lent_any (a:Option Addr) (cap:Nat) (zs:List Int) (dr bu en wa:Int) (w:World) (hz:zs.length≤17592186044416) (hs:SliceAt w a zs) :
    Calls Tryz.prog 9 #[.agg #[.slice a zs.length cap,.int .i64 dr,.int .i64 bu,.int .i64 en,.int .i64 wa]] w fun e w' =>
      ∃ B,e= .returned (.tuple #[.agg #[.slice (some ⟨B,0,none⟩) zs.length (zs.length+1),.int .i64 dr,.int .i64 bu,.int .i64 en,.int .i64 wa],.slice (some ⟨B,0,none⟩) (zs.length+1) (zs.length+1)]) ∧
        Below w.heap.size w w'∧w.heap.size≤B∧w'.heap[B]?=some (.cells (intCells (zs ++ [-77])).toArray 3 (0,0)):=by
 have hmk:=run_make_row' (P:=Tryz.prog) 33 3 (.int .i64 0) 8 Tryz.underlying33 info3 rfl .i64 .i64 (zs.length+1) (by omega) (by omega)
 rw [made_cells,show ((zs.length+1:Nat):Int)=(zs.length:Int)+1 by omega] at hmk
 have hcp:=fun o1 o2=>run_copy_new ((w.alloc o1).alloc o2) (w.heap.size+1+1) (by simp) a cap zs ((hs.below (below_alloc1 w o1)).below (below_alloc1 _ o2))
 have hca:=fun o1 o2=>copied_at' zs ((w.alloc o1).alloc o2) (w.heap.size+1+1) (by simp)
 have hlo:=lent_of zs
 go_enter Tryz.func9,Tryz.ntmps9
 go_wp2
 refine bodyPost_ret (v:= .tuple #[.agg #[.slice (some ⟨w.heap.size+1+1,0,none⟩) zs.length (zs.length+1),.int .i64 dr,.int .i64 bu,.int .i64 en,.int .i64 wa],.slice (some ⟨w.heap.size+1+1,0,none⟩) (zs.length+1) (zs.length+1)]) (by simp [results,Tryz.results9,go_sem]) rfl ⟨_,rfl,?_,?_,?_⟩
 ·exact ((((Below.refl _ _).alloc (Nat.le_refl _) _).alloc (by simp) _).alloc (by simp;omega) _).alloc (by simp;omega) _
 ·omega
 ·rw [Below.heap_alloc _ _ _ (by simp)]
  exact heap_alloc_new _ _ (by simp)
theorem cell_of_heap {w:World} {B j:Nat} {cs:Array Value} {t:TypeId} {v:Value} (h:w.heap[B]?=some (.cells cs t (0,0))) (hv:cs[j]?=some v):w.cell? ⟨B,j,none⟩=some v:=by
  simp [World.cell?,h,hv]
theorem frozen_of_heap {w:World} {B j:Nat} {cs:Array Value} {t:TypeId} (h:w.heap[B]?=some (.cells cs t (0,0))):w.frozen? ⟨B,j,none⟩=false:=by
  simp [World.frozen?,h]
theorem lent_get {zs:List Int} {j:Nat} (h:j<zs.length):(lentCells zs)[j]?=some (.int .i64 (zs.getD j 0)):=by
  simp [lentCells,intCells,List.getElem?_append,h]
theorem lent_last (zs:List Int):(lentCells zs)[zs.length]?=some (.int .i64 (-77)):=by
  simp [lentCells,intCells]
def IntsRow (w:World) (B n:Nat):Prop:=∃ cs:Array Value,w.heap[B]?=some (.cells cs 3 (0,0))∧∀ j,j<n→∃ v,cs[j]?=some (.int .i64 v)
theorem IntsRow.at {w:World} {B n j:Nat} (h:IntsRow w B n) (hj:j<n):(∃ v,w.cell? ⟨B,j,none⟩=some (.int .i64 v))∧w.frozen? ⟨B,j,none⟩=false:=by
  obtain ⟨cs,hc,hv⟩:=h
  obtain ⟨v,hv⟩:=hv j hj
  exact ⟨⟨v,cell_of_heap hc hv⟩,frozen_of_heap hc⟩
theorem IntsRow.set {w:World} {B n j:Nat} (h:IntsRow w B n) (x:Int):IntsRow (w.setCell ⟨B,j,none⟩ (.int .i64 x)) B n:=by
  obtain ⟨cs,hc,hv⟩:=h
  refine ⟨cs.setIfInBounds j (.int .i64 x),?_,fun k hk=>?_⟩
  ·rw [setCell_eq_setRow w B j cs _ _ _ hc];exact setRow_heap w B _ _ _ _ hc
  ·obtain ⟨v,hv⟩:=hv k hk
   rw [Array.getElem?_setIfInBounds]
   have hlt:k<cs.size:=by
     rcases Nat.lt_or_ge k cs.size with h|h
     ·exact h
     ·rw [Array.getElem?_eq_none h] at hv;cases hv
   by_cases e:j=k
   ·subst e;exact ⟨x,by simp [hlt]⟩
   ·exact ⟨v,by simp [e,hv]⟩
theorem back_any (a:Option Addr) (cap:Nat) (zs:List Int) (dr bu en wa:Int) (w:World) (B:Nat) (hz:zs.length≤17592186044416) (hs:SliceAt w a zs) (hB:w.heap[B]?=some (.cells (lentCells zs) 3 (0,0))) :
    Calls Tryz.prog 11 #[.slice (some ⟨B,0,none⟩) (zs.length+1) (zs.length+1),.agg #[.slice a zs.length cap,.int .i64 dr,.int .i64 bu,.int .i64 en,.int .i64 wa]] w fun e w' =>
      e= .returned (.bool true)∧Below B w w':=by
 have hBlt:B<w.heap.size:=(Array.getElem?_eq_some_iff.1 hB).1
 have hs1:∀ o,SliceAt (w.alloc o) a zs:=fun o=>hs.below (below_alloc1 w o)
 have hB1:∀ o,Hid ((w.alloc o).heap[B]?=some (.cells (lentCells zs) 3 (0,0))):=fun o=>by show _=_;rw [Below.heap_alloc _ _ _ hBlt];exact hB
 have hlast:∀ o,(w.alloc o).cell? ⟨B,zs.length,none⟩=some (.int .i64 (-77)):=fun o=>cell_of_heap (hB1 o).out (lent_last zs)
 clear hB
 go_enter Tryz.func11,Tryz.ntmps11
 go_wp2
 obtain ⟨w1,hw1⟩:∃ w1,w1=w.alloc (.cells #[.slice a zs.length cap,.int .i64 dr,.int .i64 bu,.int .i64 en,.int .i64 wa] 35):=⟨_,rfl⟩
 have hself:∀ wr,Below w1.heap.size w1 wr→wr.cell? ⟨w.heap.size,0,none⟩=some (.slice a zs.length cap):=fun wr h=>cell_later h (by rw [hw1,World.cell?_alloc_new];rfl)
 have hs2:SliceAt w1 a zs:=by rw [hw1];exact hs1 _
 have hB2:Hid (w1.heap[B]?=some (.cells (lentCells zs) 3 (0,0))):=by rw [hw1];exact hB1 _
 have hbw:Below w.heap.size w w1:=by rw [hw1];exact below_alloc1 _ _
 rw [← hw1]
 clear hs1 hB1 hlast
 have HW:=hide hw1
 clear hw1
 go_loopw [6,7] (fun ok i wr=>∃ r:Nat,r≤zs.length∧i= .int .i64 r∧ok= .bool true∧Below w1.heap.size w1 wr) (fun _ i _=>zs.length - (intOf i).toNat)
 case atStart=>exact ⟨0,Nat.zero_le _,rfl,rfl,Below.refl _ _⟩
 case round =>
   obtain ⟨r,hrn,rfl,rfl,hbr⟩:=hrel
   by_cases hlt:r<zs.length
   ·obtain ⟨b,off,rfl,hr⟩:=hs2 (by omega)
    have hc1:=cell_later hbr (hr r hlt)
    have hc2:=cell_later hbr (cell_of_heap hB2.out (lent_get hlt))
    have hc3:=hself _ hbr
    have hrn1:(r:Int)<(zs.length:Int):=by omega
    have hrn2:(r:Int)<(zs.length:Int)+1:=by omega
    generalize zs.getD r 0=x at *
    go_wp2
    go_quiet (fail)
    go_wp2
    exact ⟨⟨r+1,by omega,by go_num,rfl,below_drewN hbr _⟩,by simp [intOf];omega⟩
   ·have hrow:IntsRow wr B (zs.length+1):=by
      refine ⟨lentCells zs,?_,fun j hj=>?_⟩
      ·rw [hbr.block B (by have:=hbw.size;omega)];exact hB2.out
      ·by_cases e:j=zs.length
       ·exact ⟨_,by rw [e];exact lent_last zs⟩
       ·exact ⟨_,lent_get (by omega)⟩
    have hbB:Below B w wr:=(hbw.mono (by omega)).trans (hbr.mono (by have:=hbw.size;omega))
    clear hself hs2 hB2 hbr HW hs
    go_wp2
    go_loopw [8] (fun i wq=>∃ q:Nat,q≤zs.length+1∧i= .int .i64 q∧IntsRow wq B (zs.length+1)∧Below B w wq) (fun i _=>zs.length+1 - (intOf i).toNat)
    case atStart=>exact ⟨0,Nat.zero_le _,rfl,hrow,hbB⟩
    case round =>
      obtain ⟨q,hqn,rfl,hrq,hbq⟩:=hrel
      by_cases hlt2:q≤zs.length
      ·obtain ⟨⟨v,hcq⟩,hfq⟩:=hrq.at (show q<zs.length+1 by omega)
       have hq1:(q:Int)≤(zs.length:Int):=by omega
       have hq2:(q:Int)<(zs.length:Int)+1:=by omega
       go_wp2
       exact ⟨⟨q+1,by omega,by go_num,hrq.set 0,hbq.setCell (Nat.le_refl _) _⟩,by simp [intOf];omega⟩
      ·go_wp2
       go_ret
       exact ⟨rfl,hbq⟩
end
end Go.Proofs.YtpdkojgepagbnaaGreatDoor
