/-
  A map of the program's own, as a plain list of its entries in the order in which they were stored; looked up, written, deleted from.
-/
import Derived.Test.YtpdkojgepagbnaaGreatDoorProg
import Derived.Maps.RangeWalk
import Derived.DeepKeys4
namespace Go.Proofs.YtpdkojgepagbnaaGreatDoor
set_option maxRecDepth 100000
set_option maxHeartbeats 8000000
section
open Go.RowKit Go.ChangeMaps Go.MapKept
open Go.WideElems (Fit rd rg pl rd_val rd_mk other_key)
open Go.Maps (Keyed)
def heldR (v:Value):Option (DataW Value × List MemPlace):=some (.held v,[])
def pairV (x:MapEntry):Value × Value:=(x.key,x.val)
structure MapIs (P:Program) (k:TypeId) (w:World) (b:Nat) (l:List (Value × Value)):Prop where
  is:∃ es clock,w.heap[b]?=some (.map es clock)∧Fit P k heldR es clock∧es.toList.map pairV=l
theorem MapIs.heap {P:Program} {k:TypeId} {w w':World} {b:Nat} {l:List (Value × Value)} (h:MapIs P k w b l) (e:w'.heap[b]?=w.heap[b]?):MapIs P k w' b l:=by
  obtain ⟨es,clock,hb,F,hl⟩:=h.is
  exact ⟨⟨es,clock,e.trans hb,F,hl⟩⟩
theorem MapIs.lt {P:Program} {k:TypeId} {w:World} {b:Nat} {l:List (Value × Value)} (h:MapIs P k w b l):b<w.heap.size:=by
  obtain ⟨es,clock,hb,_⟩:=h.is
  exact (Array.getElem?_eq_some_iff.1 hb).1
theorem MapIs.made (P:Program) (k:TypeId) (w:World):MapIs P k (w.alloc (.map #[] 0)) w.heap.size [] :=
  ⟨⟨#[],0,(MapKept.heap_alloc w _).1,⟨by simp,stamped_empty 0,by simp⟩,rfl⟩⟩
theorem MapIs.apart {P:Program} {k:TypeId} {w:World} {b:Nat} {l:List (Value × Value)} (h:MapIs P k w b l):l.Pairwise (fun p q=>p.1≠q.1):=by
  obtain ⟨es,clock,hb,F,rfl⟩:=h.is
  have hn:es.toList.Pairwise (fun x y=>x.key≠y.key):=((stamped_iff es clock).1 F.stamped).2.2
  exact List.pairwise_map.2 hn
theorem pw_eq {α β:Type} (f:α→β):∀ {l:List α},l.Pairwise (fun x y=>f x≠f y)→∀ {x y:α},x∈l→y∈l→f x=f y→x=y
  | [],_,_,_,hx,_,_=>nomatch hx
  | a :: r,h,x,y,hx,hy,e=>by
    obtain ⟨h1,h2⟩:=List.pairwise_cons.1 h
    rcases List.mem_cons.1 hx with ex|hx' <;> rcases List.mem_cons.1 hy with ey|hy'
    ·rw [ex,ey]
    ·exact absurd (ex ▸ e) (h1 _ hy')
    ·exact absurd (ey ▸ e).symm (h1 _ hx')
    ·exact pw_eq f h2 hx' hy' e
theorem MapIs.look_some {P:Program} {k e t:TypeId} {w:World} {b:Nat} {l:List (Value × Value)} (h:MapIs P k w b l) (K:Keyed P k) (ht:P.underlying t=some (.map k e)) {key v:Value} {kl:Lit} (hkey:keyOf P k key=some kl) (hm:(key,v)∈l) (c:Bool) :
    (Instr.lookup t (.map (some b)) key c).run P w= .ok (if c then .tuple #[v,.bool true] else v) w:=by
 have hap:=h.apart
 obtain ⟨es,clock,hb,F,rfl⟩:=h.is
 rcases K.find w hkey es.toList F.keys with ⟨h1,h2⟩|⟨j,e0,h1,h2,h3⟩
 ·obtain ⟨x,hx,hxe⟩:=List.mem_map.1 hm
  exact absurd (congrArg Prod.fst hxe) (h2 x hx)
 ·have hm0:pairV e0∈es.toList.map pairV:=List.mem_map.2 ⟨_,List.mem_of_getElem? h2,rfl⟩
  have hv:e0.val=v:=congrArg Prod.snd (pw_eq Prod.fst hap hm0 hm h3)
  simp [Instr.lookup,run_underlying ht,MapKept.run_getObj_map hb,K.check w _ hkey,h1,hv,Result.andThen]
theorem MapIs.look_none {P:Program} {k e t:TypeId} {w:World} {b:Nat} {l:List (Value × Value)} (h:MapIs P k w b l) (K:Keyed P k) (ht:P.underlying t=some (.map k e)) {key z:Value} {kl:Lit} (hkey:keyOf P k key=some kl) (hm:∀ p∈l,p.1≠key) (hz:(zeroValue e).run P w= .ok z w) (c:Bool) :
    (Instr.lookup t (.map (some b)) key c).run P w= .ok (if c then .tuple #[z,.bool false] else z) w:=by
 obtain ⟨es,clock,hb,F,rfl⟩:=h.is
 rcases K.find w hkey es.toList F.keys with ⟨h1,h2⟩|⟨j,e0,h1,h2,h3⟩
 ·simp [Instr.lookup,run_underlying ht,MapKept.run_getObj_map hb,K.check w _ hkey,h1,hz,Result.andThen]
 ·exact absurd h3 (hm (pairV e0) (List.mem_map.2 ⟨_,List.mem_of_getElem? h2,rfl⟩))
theorem MapIs.put {P:Program} {k e t:TypeId} {w:World} {b:Nat} {l:List (Value × Value)} (h:MapIs P k w b l) (K:Keyed P k) (ht:P.underlying t=some (.map k e)) {key v:Value} {kl:Lit} (hkey:keyOf P k key=some kl) (hroom:l.length<maxLen) :
    ∃ w' l',(Instr.mapUpdate t (.map (some b)) key v).run P w= .ok () w'∧MapIs P k w' b l'∧w.mapTurned w' b∧(((∀ p∈l,p.1≠key)∧l'=l ++ [(key,v)])∨∃ l1 o l2,l=l1 ++ (key,o) :: l2∧l'=l1 ++ (key,v) :: l2):=by
 obtain ⟨es,clock,hb,F,rfl⟩:=h.is
 have hsz:es.size<maxLen:=by simpa using hroom
 rcases K.find w hkey es.toList F.keys with ⟨h1,h2⟩|⟨j,e0,h1,h2,h3⟩
 ·refine ⟨setBlock w b (.map (es.push ⟨key,v,clock⟩) (clock+1)),_,?_,⟨⟨_,_,heap_setBlock_same hb _,⟨by simp;omega,stamped_push F.stamped h2,?_⟩,rfl⟩⟩,⟨es,clock,_,_,hb,rfl⟩,Or.inl ⟨?_,?_⟩⟩
  ·simp [Instr.mapUpdate,run_underlying ht,MapKept.run_getObj_map hb,K.check w false hkey,h1,MapKept.run_setObj_map _ hb,Result.andThen,setBlock]
  ·intro x hx
   simp only [Array.toList_push,List.mem_append,List.mem_singleton] at hx
   rcases hx with hx|rfl
   ·exact F.reads x hx
   ·exact ⟨_,rd_mk hkey rfl⟩
  ·intro p hp
   obtain ⟨x,hx,rfl⟩:=List.mem_map.1 hp
   exact h2 x hx
  ·simp [pairV]
 ·have hj:es[j]?=some e0:=by simpa using h2
  have hkeyf:∀ e',es[j]?=some e'→({ e' with key:=key,val:=v }:MapEntry).key=e'.key:=fun e' he'=>by rw [hj] at he';cases he';exact h3.symm
  have hlist:(es.modify j (fun e'=>{ e' with key:=key,val:=v })).toList=es.toList.set j { e0 with key:=key,val:=v }:=by rw [Array.toList_modify,modify_eq_set _ _ _ _ h2]
  obtain ⟨hjl,hje⟩:=List.getElem?_eq_some_iff.1 h2
  have hsplit:es.toList=es.toList.take j ++ e0 :: es.toList.drop (j+1):=by
    rw [← hje,List.getElem_cons_drop hjl,List.take_append_drop]
  have hset:es.toList.set j { e0 with key:=key,val:=v }=es.toList.take j ++ { e0 with key:=key,val:=v } :: es.toList.drop (j+1):=by
    rw [List.set_eq_take_append_cons_drop,if_pos hjl]
  refine ⟨setBlock w b (.map (es.modify j (fun e'=>{ e' with key:=key,val:=v })) clock),_,?_,⟨⟨_,_,heap_setBlock_same hb _,⟨by simpa using F.size,stamped_modify F.stamped _ _ (fun _ _=>rfl) (fun e' _ he'=>hkeyf e' he'),?_⟩,rfl⟩⟩,⟨es,clock,_,_,hb,rfl⟩,Or.inr ⟨(es.toList.take j).map pairV,e0.val,(es.toList.drop (j+1)).map pairV,?_,?_⟩⟩
  ·simp [Instr.mapUpdate,run_underlying ht,MapKept.run_getObj_map hb,K.check w false hkey,h1,hj,h3,K.stays w hkey,MapKept.run_setObj_map _ hb,Result.andThen,setBlock]
  ·intro x hx
   rw [hlist,hset] at hx
   rcases List.mem_append.1 hx with hx|hx
   ·exact F.reads x (List.mem_of_mem_take hx)
   ·rcases List.mem_cons.1 hx with rfl|hx
    ·exact ⟨_,rd_mk hkey rfl⟩
    ·exact F.reads x (List.mem_of_mem_drop hx)
  ·conv=>lhs;rw [hsplit]
   simp [pairV,h3]
  ·rw [hlist,hset]
   simp [pairV]
theorem MapIs.del {P:Program} {k e t:TypeId} {w:World} {b:Nat} {l:List (Value × Value)} (h:MapIs P k w b l) (K:Keyed P k) (ht:P.underlying t=some (.map k e)) {key:Value} {kl:Lit} (hkey:keyOf P k key=some kl) (ty:TypeId) :
    ∃ w' l',(Builtin.delete_ #[t,k] ty #[.map (some b),key]).run P w= .ok (.tuple #[]) w'∧MapIs P k w' b l'∧w.mapTurned w' b∧(((∀ p∈l,p.1≠key)∧l'=l)∨∃ l1 o l2,l=l1 ++ (key,o) :: l2∧l'=l1 ++ l2):=by
 obtain ⟨es,clock,hb,F,rfl⟩:=h.is
 rcases K.find w hkey es.toList F.keys with ⟨h1,h2⟩|⟨j,e0,h1,h2,h3⟩
 ·refine ⟨setBlock w b (.map es clock),_,?_,⟨⟨_,_,heap_setBlock_same hb _,F,rfl⟩⟩,⟨es,clock,_,_,hb,rfl⟩,Or.inl ⟨?_,rfl⟩⟩
  ·simp [Builtin.delete_,run_underlying ht,MapKept.run_getObj_map hb,K.check w _ hkey,h1,MapKept.run_setObj_map _ hb,Result.andThen,setBlock]
  ·intro p hp
   obtain ⟨x,hx,rfl⟩:=List.mem_map.1 hp
   exact h2 x hx
 ·obtain ⟨hjl,hje⟩:=List.getElem?_eq_some_iff.1 h2
  have hjs:j<es.size:=by simpa using hjl
  have hsub:(es.eraseIdxIfInBounds j).toList=es.toList.eraseIdx j:=by
    unfold Array.eraseIdxIfInBounds
    rw [dif_pos hjs]
    simp
  have hsplit:es.toList=es.toList.take j ++ e0 :: es.toList.drop (j+1):=by
    rw [← hje,List.getElem_cons_drop hjl,List.take_append_drop]
  refine ⟨setBlock w b (.map (es.eraseIdxIfInBounds j) clock),_,?_,⟨⟨_,_,heap_setBlock_same hb _,⟨Nat.le_trans (MapFrom.size_erase es j) F.size,stamped_erase F.stamped j,?_⟩,rfl⟩⟩,⟨es,clock,_,_,hb,rfl⟩,Or.inr ⟨(es.toList.take j).map pairV,e0.val,(es.toList.drop (j+1)).map pairV,?_,?_⟩⟩
  ·simp [Builtin.delete_,run_underlying ht,MapKept.run_getObj_map hb,K.check w _ hkey,h1,MapKept.run_setObj_map _ hb,Result.andThen,setBlock]
  ·intro x hx
   rw [hsub] at hx
   exact F.reads x ((List.eraseIdx_sublist _ _).subset hx)
  ·conv=>lhs;rw [hsplit]
   simp [pairV,h3]
  ·rw [hsub,List.eraseIdx_eq_take_drop_succ]
   simp
theorem MapIs.len {P:Program} {k e t:TypeId} {w:World} {b:Nat} {l:List (Value × Value)} (h:MapIs P k w b l) (ht:P.underlying t=some (.map k e)) (ty:TypeId):(Builtin.len_ #[t] ty #[.map (some b)]).run P w= .ok (.int .i64 l.length) w:=by
  obtain ⟨es,clock,hb,F,rfl⟩:=h.is
  simp [Builtin.len_,run_underlying ht,MapKept.run_getObj_map hb,goInt,Result.andThen]
/-! ### the same, told by keys and elements of plain Lean types -/
section
variable {κ ε:Type} [DecidableEq κ]
def aget (l:List (κ × ε)) (k:κ):Option ε:=(l.find? (fun p=>decide (p.1=k))).map (·.2)
def aput (l:List (κ × ε)) (k:κ) (e:ε):List (κ × ε):=match l with
  | []=>[(k,e)]
  | p :: r=>if p.1=k then (k,e) :: r else p :: aput r k e
def adel (l:List (κ × ε)) (k:κ):List (κ × ε):=match l with
  | []=>[]
  | p :: r=>if p.1=k then r else p :: adel r k
theorem aget_nil (k:κ):aget ([]:List (κ × ε)) k=none:=rfl
theorem aget_cons (p:κ × ε) (l:List (κ × ε)) (k:κ):aget (p :: l) k=if p.1=k then some p.2 else aget l k:=by
  unfold aget
  rw [List.find?_cons]
  by_cases h:p.1=k <;> simp [h]
theorem aget_mem {l:List (κ × ε)} {k:κ} {e:ε} (h:aget l k=some e):(k,e)∈l:=by
  induction l with
  | nil=>cases h
  | cons p r ih =>
    rw [aget_cons] at h
    split at h
    ·rename_i hk;cases h;subst hk;simp
    ·exact List.mem_cons_of_mem _ (ih h)
theorem aget_none {l:List (κ × ε)} {k:κ}:aget l k=none ↔ ∀ p∈l,p.1≠k:=by
  induction l with
  | nil=>simp [aget]
  | cons p r ih =>
    rw [aget_cons]
    by_cases h:p.1=k <;> simp [h,ih]
theorem aput_split {l1 l2:List (κ × ε)} {k:κ} {o e:ε} (h:∀ p∈l1,p.1≠k):aput (l1 ++ (k,o) :: l2) k e=l1 ++ (k,e) :: l2:=by
  induction l1 with
  | nil=>simp [aput]
  | cons p r ih=>simp [aput,h p (by simp),ih (fun q hq=>h q (by simp [hq]))]
theorem aput_new {l:List (κ × ε)} {k:κ} {e:ε} (h:∀ p∈l,p.1≠k):aput l k e=l ++ [(k,e)]:=by
  induction l with
  | nil=>rfl
  | cons p r ih=>simp [aput,h p (by simp),ih (fun q hq=>h q (by simp [hq]))]
theorem adel_split {l1 l2:List (κ × ε)} {k:κ} {o:ε} (h:∀ p∈l1,p.1≠k):adel (l1 ++ (k,o) :: l2) k=l1 ++ l2:=by
  induction l1 with
  | nil=>simp [adel]
  | cons p r ih=>simp [adel,h p (by simp),ih (fun q hq=>h q (by simp [hq]))]
theorem adel_new {l:List (κ × ε)} {k:κ} (h:∀ p∈l,p.1≠k):adel l k=l:=by
  induction l with
  | nil=>rfl
  | cons p r ih=>simp [adel,h p (by simp),ih (fun q hq=>h q (by simp [hq]))]
theorem aget_aput (l:List (κ × ε)) (k j:κ) (e:ε):aget (aput l k e) j=if k=j then some e else aget l j:=by
  induction l with
  | nil=>simp [aput,aget_cons,aget_nil]
  | cons p r ih =>
    unfold aput
    by_cases h:p.1=k
    ·simp only [h,if_true,aget_cons]
     by_cases hj:k=j <;> simp [hj]
    ·simp only [h,if_false,aget_cons,ih]
     by_cases hj:k=j
     ·subst hj;simp [h]
     ·simp [hj]
theorem aget_adel {l:List (κ × ε)} (hn:l.Pairwise (fun p q=>p.1≠q.1)) (k j:κ):aget (adel l k) j=if k=j then none else aget l j:=by
  induction l with
  | nil=>simp [adel,aget_nil]
  | cons p r ih =>
    obtain ⟨h1,h2⟩:=List.pairwise_cons.1 hn
    unfold adel
    by_cases h:p.1=k
    ·simp only [h,if_true,aget_cons]
     by_cases hj:k=j
     ·subst hj
      rw [if_pos rfl]
      exact aget_none.2 fun q hq=>by rw [← h];exact (h1 q hq).symm
     ·simp [hj]
    ·simp only [h,if_false,aget_cons,ih h2]
     by_cases hj:k=j
     ·subst hj;simp [h]
     ·simp [hj]
def rawL (kv:κ→Value) (ev:ε→Value) (l:List (κ × ε)):List (Value × Value):=l.map fun p=>(kv p.1,ev p.2)
omit [DecidableEq κ] in
theorem rawL_apart {kv:κ→Value} {ev:ε→Value} {l:List (κ × ε)} (h:(rawL kv ev l).Pairwise (fun p q=>p.1≠q.1)):l.Pairwise (fun p q=>p.1≠q.1) :=
  (List.pairwise_map.1 h).imp fun hne e=>hne (by simp [e])
omit [DecidableEq κ] in
theorem raw_none {kv:κ→Value} (inj:∀ a b,kv a=kv b→a=b) {ev:ε→Value} {l:List (κ × ε)} {k:κ}:(∀ p∈rawL kv ev l,p.1≠kv k) ↔ ∀ p∈l,p.1≠k:=by
  constructor
  ·intro h p hp e
   exact h _ (List.mem_map.2 ⟨p,hp,rfl⟩) (by simp [e])
  ·intro h p hp e
   obtain ⟨q,hq,rfl⟩:=List.mem_map.1 hp
   exact h q hq (inj _ _ e)
variable {P:Program} {kt et t:TypeId} {w:World} {b:Nat} {kv:κ→Value} {ev:ε→Value} {l:List (κ × ε)}
theorem map_look (h:MapIs P kt w b (rawL kv ev l)) (K:Keyed P kt) (ht:P.underlying t=some (.map kt et)) (inj:∀ a b,kv a=kv b→a=b) {k:κ} {kl:Lit} (hkey:keyOf P kt (kv k)=some kl) {z:Value} (hz:(zeroValue et).run P w= .ok z w) (c:Bool) :
    (Instr.lookup t (.map (some b)) (kv k) c).run P w= .ok (match aget l k with|some e=>if c then .tuple #[ev e,.bool true] else ev e|none=>if c then .tuple #[z,.bool false] else z) w:=by
 cases hg:aget l k with
 | some e=>exact h.look_some K ht hkey (List.mem_map.2 ⟨_,aget_mem hg,rfl⟩) c
 | none=>exact h.look_none K ht hkey ((raw_none inj).2 (aget_none.1 hg)) hz c
theorem map_put (h:MapIs P kt w b (rawL kv ev l)) (K:Keyed P kt) (ht:P.underlying t=some (.map kt et)) (inj:∀ a b,kv a=kv b→a=b) {k:κ} {kl:Lit} (hkey:keyOf P kt (kv k)=some kl) (e:ε) (hroom:l.length<maxLen) :
    ∃ w',(Instr.mapUpdate t (.map (some b)) (kv k) (ev e)).run P w= .ok () w'∧MapIs P kt w' b (rawL kv ev (aput l k e))∧w.mapTurned w' b:=by
 have hap:=h.apart
 obtain ⟨w',l',hrun,hm,ht',hl⟩:=h.put K ht (v:=ev e) hkey (by simpa [rawL] using hroom)
 refine ⟨w',hrun,?_,ht'⟩
 have e1:l'=rawL kv ev (aput l k e):=by
   rcases hl with ⟨hn,rfl⟩|⟨l1,o,l2,hs,rfl⟩
   ·rw [aput_new ((raw_none inj).1 hn)];simp [rawL]
   ·unfold rawL at hs
    obtain ⟨m1,m2,rfl,rfl,hs2⟩:=List.map_eq_append_iff.1 hs
    obtain ⟨q,m3,rfl,hq,rfl⟩:=List.map_eq_cons_iff.1 hs2
    obtain ⟨qk,qo⟩:=q
    have hk:qk=k:=inj _ _ (congrArg Prod.fst hq)
    subst hk
    rw [aput_split]
    ·simp [rawL]
    ·have:=rawL_apart hap
     rw [List.pairwise_append] at this
     intro p hp
     exact this.2.2 p hp (_,_) (List.mem_cons_self ..)
 rw [← e1]
 exact hm
theorem map_del (h:MapIs P kt w b (rawL kv ev l)) (K:Keyed P kt) (ht:P.underlying t=some (.map kt et)) (inj:∀ a b,kv a=kv b→a=b) {k:κ} {kl:Lit} (hkey:keyOf P kt (kv k)=some kl) (ty:TypeId) :
    ∃ w',(Builtin.delete_ #[t,kt] ty #[.map (some b),kv k]).run P w= .ok (.tuple #[]) w'∧MapIs P kt w' b (rawL kv ev (adel l k))∧w.mapTurned w' b:=by
 have hap:=h.apart
 obtain ⟨w',l',hrun,hm,ht',hl⟩:=h.del K ht hkey ty
 refine ⟨w',hrun,?_,ht'⟩
 have e1:l'=rawL kv ev (adel l k):=by
   rcases hl with ⟨hn,rfl⟩|⟨l1,o,l2,hs,rfl⟩
   ·rw [adel_new ((raw_none inj).1 hn)]
   ·unfold rawL at hs
    obtain ⟨m1,m2,rfl,rfl,hs2⟩:=List.map_eq_append_iff.1 hs
    obtain ⟨q,m3,rfl,hq,rfl⟩:=List.map_eq_cons_iff.1 hs2
    obtain ⟨qk,qo⟩:=q
    have hk:qk=k:=inj _ _ (congrArg Prod.fst hq)
    subst hk
    rw [adel_split]
    ·simp [rawL]
    ·have:=rawL_apart hap
     rw [List.pairwise_append] at this
     intro p hp
     exact this.2.2 p hp (_,_) (List.mem_cons_self ..)
 rw [← e1]
 exact hm
end
end
end Go.Proofs.YtpdkojgepagbnaaGreatDoor
