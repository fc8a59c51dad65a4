/-
  The document's own tier in memory: which block is whose, what it says as plain data.
  The document's tier behind a change of some of its parts.
-/
import Derived.Test.YtpdkojgepagbnaaGreatDoorJ07
import Derived.Test.YtpdkojgepagbnaaGreatDoorJ22
namespace Go.Proofs.YtpdkojgepagbnaaGreatDoor
set_option maxRecDepth 100000
set_option maxHeartbeats 8000000
section
open Go.RowKit
open Tier (Mes Ans Conf St Kept Wtr Ftc Cac)
def itemL (x:Tier.Item):List Value:=[.string x.key,.int .i64 x.ver,.int .i64 x.pres,.string x.val]
def keptL (e:Kept):List Value:=[.string e.key,.int .i64 e.ver,.int .i64 e.pres,.string e.val,.int .i64 e.base,.int .i64 e.since]
def wtrL (x:Wtr):List Value:=[.int .i64 x.node,.int .i64 x.id,.int .i64 x.serial,.int .i64 x.tag]
structure RGh where
  pv:Value
  iv:Value
  bc:Nat
  ev:Nat→Value
  fv:Nat→Value
  lv:Int→Value
  nv:Value
  av:Value
def ftcL (lv:Int→Value) (f:Ftc):List Value:=[.string f.key,.int .i64 f.serial,.int .i64 f.sent,lv f.serial]
def refC (g:RGh) (t:St):Array Value:=#[g.pv,.int .i64 t.c.drift,.int .i64 t.c.budget,.int .i64 t.c.entries,.int .i64 t.c.waiters,g.iv,.slice (some ⟨g.bc,0,none⟩) t.caches.length t.caches.length,g.nv,g.av,.int .i64 t.serial]
structure CacsAt (w:World) (bc:Nat) (ev fv:Nat→Value) (t:St):Prop where
  is:∃ cs,w.heap[bc]?=some (.cells cs 133 (0,0))∧cs.size=t.caches.length*3∧∀ n,n<t.caches.length→cs[n*3]?=some (.int .i64 (t.cac n).clock)∧cs[n*3+1]?=some (ev n)∧cs[n*3+2]?=some (fv n)
theorem CacsAt.lt {w:World} {bc:Nat} {ev fv:Nat→Value} {t:St} (h:CacsAt w bc ev fv t):bc<w.heap.size:=by
  obtain ⟨cs,h1,_⟩:=h.is
  exact heap_lt h1
theorem CacsAt.at_ {w:World} {bc:Nat} {ev fv:Nat→Value} {t:St} (h:CacsAt w bc ev fv t) {n:Nat} (hn:n<t.caches.length) :
    w.cell? ⟨bc,n*3,none⟩=some (.int .i64 (t.cac n).clock)∧w.cell? ⟨bc,n*3+1,none⟩=some (ev n)∧w.cell? ⟨bc,n*3+2,none⟩=some (fv n)∧∀ i,w.frozen? ⟨bc,i,none⟩=false:=by
 obtain ⟨cs,h1,_,h3⟩:=h.is
 obtain ⟨a,b,c⟩:=h3 n hn
 exact ⟨by rw [cOf h1];exact a,by rw [cOf h1];exact b,by rw [cOf h1];exact c,fun i=>fOf h1 i⟩
theorem CacsAt.heap {w w':World} {bc:Nat} {ev fv:Nat→Value} {t:St} (h:CacsAt w bc ev fv t) (he:w'.heap[bc]?=w.heap[bc]?):CacsAt w' bc ev fv t:=by
  obtain ⟨cs,h1,h2,h3⟩:=h.is
  exact ⟨cs,he.trans h1,h2,h3⟩
theorem CacsAt.like {w:World} {bc:Nat} {ev fv:Nat→Value} {t t':St} (h:CacsAt w bc ev fv t) (hl:t'.caches.length=t.caches.length) (hc:∀ n,(t'.cac n).clock=(t.cac n).clock):CacsAt w bc ev fv t':=by
  obtain ⟨cs,h1,h2,h3⟩:=h.is
  exact ⟨cs,h1,by rw [hl];exact h2,fun n hn=>by rw [hc];exact h3 n (by rw [← hl];exact hn)⟩
theorem CacsAt.put {w:World} {bc:Nat} {ev fv ev' fv':Nat→Value} {t t':St} (h:CacsAt w bc ev fv t) {n i:Nat} (_hn:n<t.caches.length) (hi:i<3) (v:Value) (hl:t'.caches.length=t.caches.length)
    (h0:∀ m,m<t.caches.length→(if m=n∧i=0 then v else .int .i64 (t.cac m).clock)= .int .i64 (t'.cac m).clock)
    (h1:∀ m,m<t.caches.length→(if m=n∧i=1 then v else ev m)=ev' m) (h2:∀ m,m<t.caches.length→(if m=n∧i=2 then v else fv m)=fv' m) :
    CacsAt (w.setCell ⟨bc,n*3+i,none⟩ v) bc ev' fv' t':=by
 obtain ⟨cs,c1,c2,c3⟩:=h.is
 refine ⟨cs.setIfInBounds (n*3+i) v,heap_set c1,by rw [Array.size_setIfInBounds,hl];exact c2,fun m hm=>?_⟩
 rw [hl] at hm
 obtain ⟨a,b,c⟩:=c3 m hm
 have key:∀ (j:Nat) (o u:Value),j<3→cs[m*3+j]?=some o→(if m=n∧i=j then v else o)=u→(cs.setIfInBounds (n*3+i) v)[m*3+j]?=some u:=by
   intro j o u hj hc hu
   rw [Array.getElem?_setIfInBounds]
   by_cases e:n*3+i=m*3+j
   ·rw [if_pos e,if_pos (by have:=(Array.getElem?_eq_some_iff.1 hc).1;omega),← hu,if_pos (by omega)]
   ·rw [if_neg e,hc,← hu,if_neg (by omega)]
 exact ⟨key 0 _ _ (by omega) a (h0 m hm),key 1 _ _ (by omega) b (h1 m hm),key 2 _ _ (by omega) c (h2 m hm)⟩
structure RLies (own:Own) (τ:Nat) (w:World) (br:Nat) (g:RGh) (t:St):Prop where
  top:∀ k,w.heap.size≤k→own k=none
  block:w.heap[br]?=some (.cells (refC g t) 83 (0,0))
  blockO:own br=some (τ,1)
  pars:Row own τ 2 w 3 1 g.pv (t.c.parents.map fun n=>[.int .i64 n])
  items:Row own τ 3 w 136 4 g.iv (t.items.map itemL)
  cacs:CacsAt w g.bc g.ev g.fv t
  cacsO:own g.bc=some (τ,4)
  net:Row own τ 5 w 37 9 g.nv (t.net.map mesL)
  ans:Row own τ 6 w 63 7 g.av (t.answers.map ansL)
  ents:∀ n,n<t.caches.length→Row own τ (10+n) w 138 6 (g.ev n) ((t.cac n).ents.map keptL)
  fts:∀ n,n<t.caches.length→Row own τ (20+n) w 176 4 (g.fv n) ((t.cac n).fts.map (ftcL g.lv))
  waits:∀ n,n<t.caches.length→∀ f∈(t.cac n).fts,Row own τ (40+f.serial.toNat) w 149 4 (g.lv f.serial) (f.l.map wtrL)
  few:t.caches.length≤6
theorem RLies.lt {own:Own} {τ:Nat} {w:World} {br:Nat} {g:RGh} {t:St} (h:RLies own τ w br g t):br<w.heap.size:=heap_lt h.block
theorem RLies.frame {own own':Own} {τ:Nat} {w w':World} {br:Nat} {g:RGh} {t:St} (h:RLies own τ w br g t) (hf:∀ k,k<w.heap.size→Mine own τ k→w'.heap[k]?=w.heap[k]?∧own' k=own k) (ht:∀ k,w'.heap.size≤k→own' k=none):RLies own' τ w' br g t:=by
  have F:Fr (fun _=>False) own own' τ w w':=⟨fun k hk x _ ho=>hf k hk ⟨x,ho⟩⟩
  exact ⟨ht,F.block h.blockO id h.block,F.own h.blockO id h.lt,F.row h.pars id,F.row h.items id,h.cacs.heap (hf _ h.cacs.lt ⟨_,h.cacsO⟩).1,F.own h.cacsO id h.cacs.lt,F.row h.net id,F.row h.ans id,fun n hn=>F.row (h.ents n hn) id,fun n hn=>F.row (h.fts n hn) id,fun n hn f hf'=>F.row (h.waits n hn f hf') id,h.few⟩
theorem RLies.turn {own:Own} {τ:Nat} {w w':World} {br:Nat} {g:RGh} {t:St} (h:RLies own τ w br g t) (T:Turn nO w w'):RLies own τ w' br g t :=
  h.frame (fun k hk _=>⟨T.block k hk id,rfl⟩) (fun k hk=>h.top k (Nat.le_trans T.size hk))
theorem rowAt {α:Type} {f:α→List Value} {own:Own} {τ x e m:Nat} {w:World} {v:Value} {l:List α} (h:Row own τ x w e m v (l.map f)) (hm:∀ a,(f a).length=m) {j:Nat} {a:α} (hj:l[j]?=some a) :
    ∃ b c,v= .slice (some ⟨b,0,none⟩) l.length c∧own b=some (τ,x)∧b<w.heap.size∧(∀ i,i<m→w.cell? ⟨b,j*m+i,none⟩=(f a)[i]?)∧∀ i,w.frozen? ⟨b,i,none⟩=false:=by
 have hlen:j<l.length:=(List.getElem?_eq_some_iff.1 hj).1
 have hr:=h.row
 have hr':=hr
 obtain ⟨hl,⟨hv,h0⟩|⟨b,cap,cur,hv,_,hg,_⟩⟩:=hr
 ·rw [List.length_map] at h0;omega
 ·rw [hv] at hr'
  refine ⟨b,cap,by rw [hv,List.length_map],h.mine b (by rw [hv];rfl),heap_lt hg,fun i hi=>?_,fun i=>fOf hg i⟩
  have h1:j*m+i<(l.map f).length*m:=by
    have:(j+1)*m≤l.length*m:=Nat.mul_le_mul_right m hlen
    rw [Nat.succ_mul] at this
    rw [List.length_map]
    omega
  rw [hr'.cellAt (j*m+i) h1]
  exact flatten_get (l.map f) j i (f a) (by intro y hy;obtain ⟨z,_,rfl⟩:=List.mem_map.1 hy;exact hm z) (by simp [hj]) hi
theorem rowForm {α:Type} {f:α→List Value} {own:Own} {τ x e m:Nat} {w:World} {v:Value} {l:List α} (h:Row own τ x w e m v (l.map f)):∃ a c,v= .slice a l.length c:=by
  obtain ⟨a,c,hv⟩:=row_form h.row
  rw [List.length_map] at hv
  exact ⟨a,c,hv⟩
end
section
open Go.RowKit
open Tier (Mes Ans Conf St Kept Wtr Ftc Cac)
variable {own own':Own} {τ:Nat} {w w1 w':World} {br:Nat} {g g':RGh} {t t':St}
theorem RLies.next (h:RLies own τ w br g t) (X:Nat→Prop) (F:Fr X own own' τ w w') (top:∀ k,w'.heap.size≤k→own' k=none) (hX:¬ X 2) (hl:t'.caches.length=t.caches.length) (hc:t'.c.parents=t.c.parents) (hpv:g'.pv=g.pv)
    (block:w'.heap[br]?=some (.cells (refC g' t') 83 (0,0))) (blockO:own' br=some (τ,1))
    (items:(¬ X 3∧g'.iv=g.iv∧t'.items=t.items)∨Row own' τ 3 w' 136 4 g'.iv (t'.items.map itemL))
    (cacs:CacsAt w' g'.bc g'.ev g'.fv t') (cacsO:own' g'.bc=some (τ,4))
    (net:(¬ X 5∧g'.nv=g.nv∧t'.net=t.net)∨Row own' τ 5 w' 37 9 g'.nv (t'.net.map mesL))
    (ans:(¬ X 6∧g'.av=g.av∧t'.answers=t.answers)∨Row own' τ 6 w' 63 7 g'.av (t'.answers.map ansL))
    (ents:∀ n,n<t.caches.length→(¬ X (10+n)∧g'.ev n=g.ev n∧(t'.cac n).ents=(t.cac n).ents)∨Row own' τ (10+n) w' 138 6 (g'.ev n) ((t'.cac n).ents.map keptL))
    (fts:∀ n,n<t.caches.length→(¬ X (20+n)∧g'.fv n=g.fv n∧(t'.cac n).fts.map (ftcL g'.lv)=(t.cac n).fts.map (ftcL g.lv))∨Row own' τ (20+n) w' 176 4 (g'.fv n) ((t'.cac n).fts.map (ftcL g'.lv)))
    (waits:∀ n,n<t.caches.length→∀ f∈(t'.cac n).fts,(¬ X (40+f.serial.toNat)∧g'.lv f.serial=g.lv f.serial∧∃ f0∈(t.cac n).fts,f0.serial=f.serial∧f0.l=f.l)∨Row own' τ (40+f.serial.toNat) w' 149 4 (g'.lv f.serial) (f.l.map wtrL)) :
    RLies own' τ w' br g' t':=by
 refine ⟨top,block,blockO,by rw [hc,hpv];exact F.row h.pars hX,?_,cacs,cacsO,?_,?_,fun n hn=>?_,fun n hn=>?_,fun n hn f hf=>?_,by rw [hl];exact h.few⟩
 ·rcases items with ⟨a,b,c⟩|r
  ·rw [b,c];exact F.row h.items a
  ·exact r
 ·rcases net with ⟨a,b,c⟩|r
  ·rw [b,c];exact F.row h.net a
  ·exact r
 ·rcases ans with ⟨a,b,c⟩|r
  ·rw [b,c];exact F.row h.ans a
  ·exact r
 ·rw [hl] at hn
  rcases ents n hn with ⟨a,b,c⟩|r
  ·rw [b,c];exact F.row (h.ents n hn) a
  ·exact r
 ·rw [hl] at hn
  rcases fts n hn with ⟨a,b,c⟩|r
  ·rw [b,c];exact F.row (h.fts n hn) a
  ·exact r
 ·rw [hl] at hn
  rcases waits n hn f hf with ⟨a,b,f0,h0,e1,e2⟩|r
  ·rw [b,← e1,← e2]
   rw [← e1] at a
   exact F.row (h.waits n hn f0 h0) a
  ·exact r
theorem step_of {X:Nat→Prop} (T:Turn (fun k=>∃ x,X x∧own k=some (τ,x)) w w') (hs:∀ k,k<w.heap.size→own' k=own k∨(Mine own τ k∧(own' k=none∨Mine own' τ k))):Step τ own own' w w' :=
  ⟨T.mono (fun _ _ ⟨x,_,hx⟩=>⟨x,hx⟩),hs⟩
theorem fr_of {X:Nat→Prop} (T:Turn (fun k=>∃ x,X x∧own k=some (τ,x)) w w') (hs:∀ k,k<w.heap.size→∀ x,¬ X x→own k=some (τ,x)→own' k=own k):Fr X own own' τ w w' :=
  ⟨fun k hk x hx ho=>⟨T.block k hk (fun ⟨_,hy,hyo⟩=>by rw [ho] at hyo;cases hyo;exact hx hy),hs k hk x hx ho⟩⟩
theorem RLies.sent (h:RLies own τ w br g t) {m:Mes} {gb cap:Nat}
    (hO:w1.ownsRow 0 37 9 (.slice (some ⟨gb,0,none⟩) ((t.net.map mesL).length+1) cap) ((t.net.map mesL).length+1) ((t.net.map mesL).flatten ++ mesL m)) (hg:w.grownBy w1 g.nv.ownBlock) (hat:g.nv.ownBlock=some gb∨gb=w.heap.size) (hlt:gb<w1.heap.size) :
    RLies (putO own gb (τ,5)) τ (w1.setCell ⟨br,7,none⟩ (.slice (some ⟨gb,0,none⟩) ((t.net.map mesL).length+1) cap)) br { g with nv:= .slice (some ⟨gb,0,none⟩) ((t.net.map mesL).length+1) cap } { t with net:=t.net ++ [m] }∧Step τ own (putO own gb (τ,5)) w (w1.setCell ⟨br,7,none⟩ (.slice (some ⟨gb,0,none⟩) ((t.net.map mesL).length+1) cap)):=by
 generalize hv:Value.slice (some ⟨gb,0,none⟩) ((t.net.map mesL).length+1) cap=v at *
 have hgb:own gb=some (τ,5)∨w.heap.size≤gb:=hat.imp (fun h1=>h.net.mine gb h1) (fun h1=>by omega)
 have hbt:br≠gb:=by
   rintro rfl
   rcases hgb with h1|h1
   ·rw [h.blockO] at h1;cases h1
   ·have:=h.lt;omega
 have hsame:∀ k,k<w.heap.size→putO own gb (τ,5) k=own k:=fun k hk=>putO_same hgb hk
 have T:Turn (fun k=>∃ x,(x=1∨x=5)∧own k=some (τ,x)) w (w1.setCell ⟨br,7,none⟩ v):=by
   refine ⟨hg.os,hg.tape,hg.output,by simpa using hg.size,fun k hk hm=>(hSO (fun e=>hm ⟨1,Or.inl rfl,by rw [e];exact h.blockO⟩)).trans (hg.block k hk (fun e=>hm ⟨5,Or.inr rfl,h.net.mine k e.symm⟩))⟩
 have F:Fr (fun x=>x=1∨x=5) own (putO own gb (τ,5)) τ w (w1.setCell ⟨br,7,none⟩ v):=fr_of T (fun k hk _ _ _=>hsame k hk)
 have h1:w1.heap[br]?=some (.cells (refC g t) 83 (0,0)):=(hg.block br h.lt (fun e=>by have:=h.net.mine br e.symm;rw [h.blockO] at this;cases this)).trans h.block
 refine ⟨h.next _ F (fun k hk=>?_) (by omega) rfl rfl rfl (by rw [heap_set h1];rfl) (by rw [hsame br h.lt];exact h.blockO) (Or.inl ⟨by omega,rfl,rfl⟩) ?_ (F.own h.cacsO (by omega) h.cacs.lt) (Or.inr ?_) (Or.inl ⟨by omega,rfl,rfl⟩) (fun n _=>Or.inl ⟨by omega,rfl,rfl⟩) (fun n _=>Or.inl ⟨by omega,rfl,rfl⟩) (fun n _ f hf=>Or.inl ⟨by omega,rfl,f,hf,rfl,rfl⟩),step_of T (fun k hk=>Or.inl (hsame k hk))⟩
 ·have hk1:w1.heap.size≤k:=by simpa using hk
  unfold putO
  rw [if_neg (by omega)]
  exact h.top k (by have:=hg.size;omega)
 ·exact (h.cacs.heap (F.keep _ h.cacs.lt 4 (by omega) h.cacsO).1).like rfl (fun _=>rfl)
 ·have hr:=row_grown (own:=own) (τ:=τ) (x:=5) (w2:=w1.setCell ⟨br,7,none⟩ v) (hv ▸ hO) (hSO (Ne.symm hbt))
  rw [hv] at hr
  simpa using hr
theorem RLies.gave (h:RLies own τ w br g t) {m:Ans} {gb cap:Nat}
    (hO:w1.ownsRow 0 63 7 (.slice (some ⟨gb,0,none⟩) ((t.answers.map ansL).length+1) cap) ((t.answers.map ansL).length+1) ((t.answers.map ansL).flatten ++ ansL m)) (hg:w.grownBy w1 g.av.ownBlock) (hat:g.av.ownBlock=some gb∨gb=w.heap.size) (hlt:gb<w1.heap.size) :
    RLies (putO own gb (τ,6)) τ (w1.setCell ⟨br,8,none⟩ (.slice (some ⟨gb,0,none⟩) ((t.answers.map ansL).length+1) cap)) br { g with av:= .slice (some ⟨gb,0,none⟩) ((t.answers.map ansL).length+1) cap } { t with answers:=t.answers ++ [m] }∧Step τ own (putO own gb (τ,6)) w (w1.setCell ⟨br,8,none⟩ (.slice (some ⟨gb,0,none⟩) ((t.answers.map ansL).length+1) cap)):=by
 generalize hv:Value.slice (some ⟨gb,0,none⟩) ((t.answers.map ansL).length+1) cap=v at *
 have hgb:own gb=some (τ,6)∨w.heap.size≤gb:=hat.imp (fun h1=>h.ans.mine gb h1) (fun h1=>by omega)
 have hbt:br≠gb:=by
   rintro rfl
   rcases hgb with h1|h1
   ·rw [h.blockO] at h1;cases h1
   ·have:=h.lt;omega
 have hsame:∀ k,k<w.heap.size→putO own gb (τ,6) k=own k:=fun k hk=>putO_same hgb hk
 have T:Turn (fun k=>∃ x,(x=1∨x=6)∧own k=some (τ,x)) w (w1.setCell ⟨br,8,none⟩ v):=by
   refine ⟨hg.os,hg.tape,hg.output,by simpa using hg.size,fun k hk hm=>(hSO (fun e=>hm ⟨1,Or.inl rfl,by rw [e];exact h.blockO⟩)).trans (hg.block k hk (fun e=>hm ⟨6,Or.inr rfl,h.ans.mine k e.symm⟩))⟩
 have F:Fr (fun x=>x=1∨x=6) own (putO own gb (τ,6)) τ w (w1.setCell ⟨br,8,none⟩ v):=fr_of T (fun k hk _ _ _=>hsame k hk)
 have h1:w1.heap[br]?=some (.cells (refC g t) 83 (0,0)):=(hg.block br h.lt (fun e=>by have:=h.ans.mine br e.symm;rw [h.blockO] at this;cases this)).trans h.block
 refine ⟨h.next _ F (fun k hk=>?_) (by omega) rfl rfl rfl (by rw [heap_set h1];rfl) (by rw [hsame br h.lt];exact h.blockO) (Or.inl ⟨by omega,rfl,rfl⟩) ?_ (F.own h.cacsO (by omega) h.cacs.lt) (Or.inl ⟨by omega,rfl,rfl⟩) (Or.inr ?_) (fun n _=>Or.inl ⟨by omega,rfl,rfl⟩) (fun n _=>Or.inl ⟨by omega,rfl,rfl⟩) (fun n _ f hf=>Or.inl ⟨by omega,rfl,f,hf,rfl,rfl⟩),step_of T (fun k hk=>Or.inl (hsame k hk))⟩
 ·have hk1:w1.heap.size≤k:=by simpa using hk
  unfold putO
  rw [if_neg (by omega)]
  exact h.top k (by have:=hg.size;omega)
 ·exact (h.cacs.heap (F.keep _ h.cacs.lt 4 (by omega) h.cacsO).1).like rfl (fun _=>rfl)
 ·have hr:=row_grown (own:=own) (τ:=τ) (x:=6) (w2:=w1.setCell ⟨br,8,none⟩ v) (hv ▸ hO) (hSO (Ne.symm hbt))
  rw [hv] at hr
  simpa using hr
end
end Go.Proofs.YtpdkojgepagbnaaGreatDoor
