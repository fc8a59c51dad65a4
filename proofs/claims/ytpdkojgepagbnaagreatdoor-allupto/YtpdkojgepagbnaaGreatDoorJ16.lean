/-
  What a tier becomes behind an answer: as plain data.
  The program's tier and the plain one: the same, but for the order of the fetches.
  The steps of the program's tier are those of the plain one.
  Fetches: sent, joined, over.
  One asks; an answer comes; a message comes: the program's tier and the plain one.
-/
import Derived.Test.YtpdkojgepagbnaaGreatDoorJ15
import Derived.Test.YtpdkojgepagbnaaGreatDoorJ01
namespace Go.Proofs.YtpdkojgepagbnaaGreatDoor
set_option maxRecDepth 100000
set_option maxHeartbeats 8000000
section
open Tier (Mes Ans Conf)
def PS.learn (s:PS) (n:Nat) (m:Mes) (base:Int):PS :=
  match s.entry n m.key with
  | none=>s.store n m.key ⟨m.ver,m.pres,m.val,base,s.clk n⟩
  | some e =>
    if e.ver<m.ver then s.store n m.key ⟨m.ver,m.pres,m.val,base,s.clk n⟩
    else if e.ver=m.ver∧base≤ageAt s.c.drift (s.clk n) e then s.store n m.key ⟨e.ver,e.pres,e.val,base,s.clk n⟩
    else s
def PS.tellL (s:PS) (n:Nat) (e:See) (l:List Wt):PS:=l.foldl (fun s x=>s.tell n x e) s
def PS.over (s:PS) (n:Nat) (k:ByteArray):PS:={ s with fts:=adel s.fts (n,k) }
def PS.finish (s:PS) (n:Nat) (k:ByteArray) (e:Ent) (l:List Wt):PS :=
  if ageAt s.c.drift (s.clk n) e≤s.c.budget then ((s.use n k).over n k).tellL n (seen k e (ageAt s.c.drift (s.clk n) e)) l
  else ((s.use n k).over n k).refuseL n k l
def PS.answered (s:PS) (n:Nat) (m:Mes):PS :=
  match aget s.fts (n,m.key) with
  | none=>s
  | some f =>
    if f.serial≠m.serial then s
    else if m.kind=4 then (s.over n m.key).refuseL n m.key f.l
    else if m.kind=3∧s.tag n m.key≠m.ver then s.fetch n m.key (-1) f.l f.v
    else
      let u:=s.learn n m (m.age+elap s.c.drift (s.clk n - f.sent))
      u.finish n m.key ((u.entry n m.key).getD noEnt) f.l
def PS.arrive (s:PS) (m:Mes) (v:Value):PS :=
  if m.kind≠1 then s.answered m.to.toNat m
  else if m.to=0 then s.askedOrigin m
  else s.asked m.to.toNat m.key (childOf m) v
def PS.taken (s:PS) (i:Nat):PS:={ s with net:=s.net.take i ++ s.net.drop (i+1) }
def PS.write (s:PS) (k:ByteArray) (p:Int) (v:ByteArray):PS:={ s with recs:=aput s.recs k ⟨(s.record k).ver+1,p,v⟩ }
end
section
open Tier (Mes Ans Conf St Kept Wtr Ftc Cac Item)
def keptOf (k:ByteArray) (e:Ent):Kept:=⟨k,e.ver,e.pres,e.val,e.base,e.since⟩
def PS.kept (s:PS) (n:Nat) (k:ByteArray):Kept:=keptOf k ((s.entry n k).getD noEnt)
def wtrOf (x:Wt):Wtr:=⟨if x.child=0 then -1 else x.child,x.id,x.serial,x.tag⟩
def ftcOf (p:(Nat × ByteArray) × Ft):Ftc:=⟨p.1.2,p.2.serial,p.2.sent,p.2.l.map wtrOf⟩
def ftsOf (l:List ((Nat × ByteArray) × Ft)) (n:Nat):List Ftc:=(l.filter (fun p=>decide (p.1.1=n))).map ftcOf
structure Ref (s:PS) (t:St):Prop where
  c:t.c=s.c
  items:∀ k,t.item k=⟨k,(s.record k).ver,(s.record k).pres,(s.record k).val⟩
  len:t.caches.length=s.c.parents.length
  clock:∀ n,n<s.c.parents.length→(t.cac n).clock=s.clk n
  ents:∀ n,n<s.c.parents.length→(t.cac n).ents=(s.used n).map (s.kept n)
  has:∀ n,n<s.c.parents.length→∀ k,k∈s.used n ↔ (s.entry n k).isSome=true
  nodup:∀ n,n<s.c.parents.length→(s.used n).Nodup
  room:∀ n,n<s.c.parents.length→((s.used n).length:Int)≤s.c.entries
  fts:∀ n,n<s.c.parents.length→(ftsOf s.fts n).Perm (t.cac n).fts
  apart:s.fts.Pairwise (fun p q=>p.1≠q.1)
  apartE:s.found.Pairwise (fun p q=>p.1≠q.1)
  some1:1≤s.c.entries
  serial:t.serial=s.serial
  net:t.net=s.net
  answers:t.answers=s.answers
theorem find_own {l:List ByteArray} {k:ByteArray} (h:k∈l):l.find? (fun x=>decide (x=k))=some k:=by
  induction l with
  | nil=>cases h
  | cons x r ih =>
    rw [List.find?_cons]
    by_cases e:x=k
    ·subst e;simp
    ·rw [decide_eq_false e]
     exact ih ((List.mem_cons.1 h).resolve_left (fun e'=>e e'.symm))
theorem Ref.entry {s:PS} {t:St} (h:Ref s t) {n:Nat} (hn:n<s.c.parents.length) (k:ByteArray):t.entry n k=(s.entry n k).map (keptOf k):=by
  unfold Tier.St.entry
  rw [h.ents n hn,List.find?_map]
  have e:((fun e:Kept=>decide (e.key=k)) ∘ s.kept n)=fun x=>decide (x=k):=rfl
  rw [e]
  cases he:s.entry n k with
  | none =>
    have:k ∉ s.used n:=fun hm=>by rw [(h.has n hn k),he] at hm;cases hm
    rw [List.find?_eq_none.2 (fun x hx=>by simp;intro e;subst e;exact this hx)]
    rfl
  | some e0 =>
    have:k∈s.used n:=by rw [h.has n hn k,he];rfl
    rw [find_own this]
    simp [PS.kept,he]
theorem elapsed_elap (drift d:Int):Tier.elapsed drift d=elap drift d:=by unfold Tier.elapsed elap;rw [Int.mul_comm]
theorem Ref.age {s:PS} {t:St} (h:Ref s t) {n:Nat} (hn:n<s.c.parents.length) (k:ByteArray) (e:Ent):t.age n (keptOf k e)=ageAt s.c.drift (s.clk n) e:=by
  unfold Tier.St.age ageAt
  rw [h.clock n hn,h.c,elapsed_elap]
  rfl
theorem perm_find {α:Type} {p:α→Bool}:∀ {l1 l2:List α},l1.Perm l2→l1.Pairwise (fun a b=>¬ (p a=true∧p b=true))→l1.find? p=l2.find? p:=by
  intro l1 l2 h
  induction h with
  | nil=>intro _;rfl
  | cons x _ ih=>intro hp;simp only [List.find?_cons];split;rfl;exact ih (List.pairwise_cons.1 hp).2
  | swap x y l =>
    intro hp
    have:=(List.pairwise_cons.1 hp).1 x (by simp)
    simp only [List.find?_cons]
    cases hx:p x <;> cases hy:p y <;> simp_all
  | trans h1 _ ih1 ih2=>intro hp;rw [ih1 hp];exact ih2 (h1.pairwise_iff (fun h=>fun ⟨a,b⟩=>h ⟨b,a⟩) |>.1 hp)
theorem ftsOf_uniq {l:List ((Nat × ByteArray) × Ft)} (h:l.Pairwise (fun p q=>p.1≠q.1)) (n:Nat):Tier.Uniq (ftsOf l n):=by
  unfold Tier.Uniq ftsOf
  rw [List.pairwise_map]
  refine (h.filter _).imp_of_mem ?_
  intro a b ha hb hab e
  have ha':=of_decide_eq_true (List.mem_filter.1 ha).2
  have hb':=of_decide_eq_true (List.mem_filter.1 hb).2
  exact hab (Prod.ext (ha'.trans hb'.symm) e)
theorem ftsOf_find (n:Nat) (k:ByteArray):∀ (l:List ((Nat × ByteArray) × Ft)),(ftsOf l n).find? (fun f=>decide (f.key=k))=(aget l (n,k)).map (fun f=>ftcOf ((n,k),f))
  | []=>rfl
  | ⟨⟨m,k'⟩,f⟩ :: r=>by
    rw [aget_cons]
    have ih:=ftsOf_find n k r
    unfold ftsOf at *
    by_cases hm:m=n
    ·subst hm
     rw [List.filter_cons_of_pos (by simp),List.map_cons,List.find?_cons]
     by_cases hk:k'=k
     ·subst hk
      simp [ftcOf]
     ·rw [if_neg (by intro e;cases e;exact hk rfl)]
      have:decide ((ftcOf ((m,k'),f)).key=k)=false:=decide_eq_false hk
      rw [this]
      exact ih
    ·rw [List.filter_cons_of_neg (by simpa using hm),if_neg (by intro e;cases e;exact hm rfl)]
     exact ih
theorem Ref.uniq {s:PS} {t:St} (h:Ref s t) {n:Nat} (hn:n<s.c.parents.length):Tier.Uniq (t.cac n).fts :=
  ((h.fts n hn).pairwise_iff (fun h=>fun e=>h e.symm)).1 (ftsOf_uniq h.apart n)
theorem Ref.fetch {s:PS} {t:St} (h:Ref s t) {n:Nat} (hn:n<s.c.parents.length) (k:ByteArray):t.fetch n k=(aget s.fts (n,k)).map (fun f=>ftcOf ((n,k),f)):=by
  unfold Tier.St.fetch
  rw [← ftsOf_find n k s.fts]
  refine (perm_find (h.fts n hn) ((ftsOf_uniq h.apart n).imp ?_)).symm
  intro a b hab ⟨ha,hb⟩
  exact hab ((of_decide_eq_true ha).trans (of_decide_eq_true hb).symm)
theorem ftsOf_waiting (n:Nat):∀ (l:List ((Nat × ByteArray) × Ft)),((ftsOf l n).map fun f=>f.l.length).sum=waiting n l
  | []=>rfl
  | p :: r=>by
    have ih:=ftsOf_waiting n r
    unfold ftsOf waiting at *
    by_cases hm:p.1.1=n
    ·rw [List.filter_cons_of_pos (by simpa using hm)]
     simp only [List.map_cons,List.sum_cons,if_pos hm,ih]
     simp [ftcOf]
    ·rw [List.filter_cons_of_neg (by simpa using hm)]
     simp only [List.map_cons,List.sum_cons,if_neg hm,ih]
     omega
theorem Ref.waiting {s:PS} {t:St} (h:Ref s t) {n:Nat} (hn:n<s.c.parents.length):t.waiting n=waiting n s.fts:=by
  unfold Tier.St.waiting
  rw [← ftsOf_waiting]
  exact (((h.fts n hn).map _).sum_nat).symm
theorem Ref.talk {s s':PS} {t t':St} (h:Ref s t) (h1:s'.c=s.c) (h2:s'.recs=s.recs) (h3:s'.clk=s.clk) (h4:s'.found=s.found) (h5:s'.used=s.used) (h6:s'.fts=s.fts) (h7:s'.serial=s.serial)
    (g1:t'.c=t.c) (g2:t'.items=t.items) (g3:t'.caches=t.caches) (g4:t'.serial=t.serial) (hn:t'.net=s'.net) (ha:t'.answers=s'.answers):Ref s' t':=by
 have hc:∀ n,t'.cac n=t.cac n:=fun n=>by unfold Tier.St.cac;rw [g3]
 have hi:∀ k,t'.item k=t.item k:=fun k=>by unfold Tier.St.item;rw [g2]
 have hr:∀ k,s'.record k=s.record k:=fun k=>by unfold PS.record;rw [h2]
 have he:∀ n k,s'.entry n k=s.entry n k:=fun n k=>by unfold PS.entry;rw [h4]
 have hkp:∀ n,s'.kept n=s.kept n:=fun n=>by funext k;unfold PS.kept;rw [he]
 refine ⟨by rw [g1,h1];exact h.c,fun k=>by rw [hi,hr];exact h.items k,by rw [g3,h1];exact h.len,fun n=>by rw [h1,hc,h3];exact h.clock n,fun n=>by rw [h1,hc,h5,hkp];exact h.ents n,fun n=>by rw [h1,h5];intro hn k;rw [he];exact h.has n hn k,fun n=>by rw [h1,h5];exact h.nodup n,fun n=>by rw [h1,h5];exact h.room n,fun n=>by rw [h1,h6,hc];exact h.fts n,by rw [h6];exact h.apart,by rw [h4];exact h.apartE,by rw [h1];exact h.some1,by rw [g4,h7];exact h.serial,hn,ha⟩
theorem node_neg {x:Wt} (hx:0≤x.child):(wtrOf x).node<0 ↔ x.child=0:=by
  unfold wtrOf
  dsimp only
  split <;> omega
theorem node_pos {x:Wt} (hx:x.child≠0):(wtrOf x).node=x.child:=by
  unfold wtrOf
  dsimp only
  rw [if_neg hx]
theorem Ref.refuse {s:PS} {t:St} (h:Ref s t) (n:Nat) (k:ByteArray) (x:Wt) (hx:0≤x.child):Ref (s.refuse n k x) (t.refused n k (wtrOf x)):=by
  unfold PS.refuse Tier.St.refused
  by_cases hc:x.child=0
  ·rw [if_pos hc,if_pos ((node_neg hx).2 hc)]
   exact h.talk rfl rfl rfl rfl rfl rfl rfl rfl rfl rfl rfl h.net (by show t.answers ++ _=s.answers ++ _;rw [h.answers];rfl)
  ·rw [if_neg hc,if_neg (fun e=>hc ((node_neg hx).1 e))]
   exact h.talk rfl rfl rfl rfl rfl rfl rfl rfl rfl rfl rfl (by show t.net ++ _=s.net ++ _;rw [h.net,node_pos hc];rfl) h.answers
theorem nodup_split {l:List ByteArray} (h:l.Nodup) {i:Nat} {k:ByteArray} (hi:l[i]?=some k):l.take i ++ l.drop (i+1)=l.filter (fun x=>decide (x≠k)):=by
  induction l generalizing i with
  | nil=>simp at hi
  | cons x r ih =>
    obtain ⟨h1,h2⟩:=List.nodup_cons.1 h
    cases i with
    | zero =>
      simp at hi
      subst hi
      rw [List.filter_cons_of_neg (by simp)]
      have:r.filter (fun y=>decide (y≠x))=r:=List.filter_eq_self.2 (fun y hy=>by simp;intro e;subst e;exact h1 hy)
      rw [this];simp
    | succ i =>
      have hi':r[i]?=some k:=by simpa using hi
      have hx:x≠k:=fun e=>h1 (e ▸ List.mem_of_getElem? hi')
      rw [List.filter_cons_of_pos (by simpa using hx)]
      simp [ih h2 hi']
theorem placeOf_none {k:ByteArray}:∀ {l:List ByteArray} {j:Nat},placeOf k l j=-1→k ∉ l
  | [],_,_,h=>by cases h
  | x :: r,j,e,h=>by
    unfold placeOf at e
    split at e
    ·omega
    ·next hx =>
     rcases List.mem_cons.1 h with h|h
     ·exact hx h
     ·exact placeOf_none e h
theorem aput_keys {κ ε:Type} [DecidableEq κ] {k:κ} {e:ε}:∀ {l:List (κ × ε)},l.Pairwise (fun p q=>p.1≠q.1)→(aput l k e).Pairwise (fun p q=>p.1≠q.1)
  | [],_=>List.pairwise_singleton _ _
  | q :: r,h=>by
    obtain ⟨h1,h2⟩:=List.pairwise_cons.1 h
    unfold aput
    split
    ·next hq=>exact List.pairwise_cons.2 ⟨fun p hp=>hq ▸ h1 p hp,h2⟩
    ·next hq =>
     refine List.pairwise_cons.2 ⟨fun p hp=>?_,aput_keys h2⟩
     rcases of_aput hp with e|e
     ·subst e;exact hq
     ·exact h1 p e
theorem aput_same {κ ε:Type} [DecidableEq κ] {k:κ} {e:ε}:∀ {l:List (κ × ε)},aget l k=some e→aput l k e=l
  | [],h=>by rw [aget_nil] at h;cases h
  | q :: r,h=>by
    rw [aget_cons] at h
    unfold aput
    split
    ·next hq =>
     rw [if_pos hq] at h
     cases h
     rw [← hq]
    ·next hq =>
     rw [if_neg hq] at h
     rw [aput_same h]
theorem useL_nodup {l:List ByteArray} (h:l.Nodup) {k:ByteArray} (hk:k∈l):useL k l=k :: l.filter (fun x=>decide (x≠k)):=by
  unfold useL
  rcases placeOf_cases k l 0 with e|⟨i,hi,e,hx⟩
  ·exfalso
   exact placeOf_none e hk
  ·rw [if_neg (by rw [e];omega),e]
   have:((0+i:Nat):Int).toNat=i:=by omega
   rw [this,nodup_split h hx]
theorem Ref.cacheStep {s s':PS} {t:St} (h:Ref s t) {n:Nat} (hn:n<s.c.parents.length) (hc:s'.c=s.c) (hr:s'.recs=s.recs) (hk:s'.clk=s.clk) (hft:s'.fts=s.fts) (hsr:s'.serial=s.serial) (hnt:s'.net=s.net) (han:s'.answers=s.answers)
    (hap:s'.found.Pairwise (fun p q=>p.1≠q.1)) (ho:∀ m k,m≠n→s'.entry m k=s.entry m k) (hu:∀ m,m≠n→s'.used m=s.used m) {l:List Kept} (hl:l=(s'.used n).map (s'.kept n)) (hhas:∀ k,k∈s'.used n ↔ (s'.entry n k).isSome=true) (hnd:(s'.used n).Nodup) (hrm:((s'.used n).length:Int)≤s.c.entries) :
    Ref s' (t.setCac n { t.cac n with ents:=l }):=by
 have hcac:∀ m,(t.setCac n { t.cac n with ents:=l }).cac m=if m=n∧n<t.caches.length then { t.cac n with ents:=l } else t.cac m:=fun m=>Tier.cac_set t n m _
 have hnl:n<t.caches.length:=by rw [h.len];exact hn
 refine ⟨by rw [hc];exact h.c,fun k=>?_,by rw [hc];exact (Tier.length_set t n _).trans h.len,fun m hm=>?_,fun m hm=>?_,fun m hm k=>?_,fun m hm=>?_,fun m hm=>?_,fun m hm=>?_,by rw [hft];exact h.apart,hap,by rw [hc];exact h.some1,by rw [hsr];exact h.serial,by rw [hnt];exact h.net,by rw [han];exact h.answers⟩
 ·have:s'.record k=s.record k:=by unfold PS.record;rw [hr]
  rw [this];exact h.items k
 ·rw [hc] at hm
  rw [hcac,hk]
  split
  ·next e=>rw [e.1];exact h.clock n hn
  ·exact h.clock m hm
 ·rw [hc] at hm
  rw [hcac]
  by_cases e:m=n
  ·subst e;rw [if_pos ⟨rfl,hnl⟩];exact hl
  ·rw [if_neg (fun e'=>e e'.1),hu m e]
   have:s'.kept m=s.kept m:=by funext k;unfold PS.kept;rw [ho m k e]
   rw [this];exact h.ents m hm
 ·rw [hc] at hm
  by_cases e:m=n
  ·subst e;exact hhas k
  ·rw [hu m e,ho m k e];exact h.has m hm k
 ·rw [hc] at hm
  by_cases e:m=n
  ·subst e;exact hnd
  ·rw [hu m e];exact h.nodup m hm
 ·rw [hc] at hm ⊢
  by_cases e:m=n
  ·subst e;exact hrm
  ·rw [hu m e];exact h.room m hm
 ·rw [hc] at hm
  rw [hcac,hft]
  split
  ·next e=>rw [e.1];exact h.fts n hn
  ·exact h.fts m hm
theorem take_all {α:Type} {l:List α} {n:Nat} (h:l.length≤n):l.take n=l:=List.take_of_length_le h
theorem Ref.front {s:PS} {t:St} (h:Ref s t) {n:Nat} (hn:n<s.c.parents.length) {k:ByteArray} {e0 e:Ent} (he:s.entry n k=some e0) :
    Ref (({ s with found:=aput s.found (n,k) e }:PS).use n k) (t.uses n (keptOf k e)):=by
 have hmem:k∈s.used n:=by rw [h.has n hn k,he];rfl
 have hul:(({ s with found:=aput s.found (n,k) e }:PS).use n k).used n=k :: (s.used n).filter (fun x=>decide (x≠k)):=by
   show (if n=n then useL k (s.used n) else _)=_
   rw [if_pos rfl,useL_nodup (h.nodup n hn) hmem]
 have hent:∀ m j,(({ s with found:=aput s.found (n,k) e }:PS).use n k).entry m j=if (n,k)=(m,j) then some e else s.entry m j:=fun m j=>aget_aput s.found (n,k) (m,j) e
 have hlen:(k :: (s.used n).filter (fun x=>decide (x≠k))).length=(s.used n).length:=by
   have:=useL_length k (s.used n)
   rw [useL_nodup (h.nodup n hn) hmem] at this
   exact this
 unfold Tier.St.uses
 refine h.cacheStep (s':=({ s with found:=aput s.found (n,k) e }:PS).use n k) hn rfl rfl rfl rfl rfl rfl rfl (aput_keys h.apartE) (fun m j hm=>?_) (fun m hm=>?_) ?_ (fun j=>?_) ?_ ?_
 ·rw [hent,if_neg (fun e=>hm (by cases e;rfl))]
 ·show (if m=n then _ else s.used m)=_
  rw [if_neg hm]
 ·rw [hul,h.ents n hn,h.c,List.map_cons,take_all]
  ·have h1:(({ s with found:=aput s.found (n,k) e }:PS).use n k).kept n k=keptOf k e:=by unfold PS.kept;rw [hent,if_pos rfl];rfl
   rw [h1]
   congr 1
   rw [List.filter_map]
   refine List.map_congr_left (fun x hx=>?_)
   have hxk:x≠k:=of_decide_eq_true (List.mem_filter.1 hx).2
   unfold PS.kept
   rw [hent,if_neg (fun e=>hxk (by cases e;rfl))]
  ·have:=h.room n hn
   rw [List.length_cons] at hlen ⊢
   rw [List.filter_map,List.length_map]
   have e2:((s.used n).filter ((fun x:Kept=>decide (x.key≠(keptOf k e).key)) ∘ s.kept n))=(s.used n).filter (fun x=>decide (x≠k)):=rfl
   rw [e2]
   omega
 ·rw [hul,hent]
  by_cases e:j=k
  ·subst e;simp
  ·rw [if_neg (fun e'=>e (by cases e';rfl)),← h.has n hn j]
   simp [e]
 ·rw [hul]
  exact List.nodup_cons.2 ⟨fun hm=>(of_decide_eq_true (List.mem_filter.1 hm).2) rfl,(h.nodup n hn).filter _⟩
 ·rw [hul,hlen];exact h.room n hn
theorem Ref.use {s:PS} {t:St} (h:Ref s t) {n:Nat} (hn:n<s.c.parents.length) {k:ByteArray} {e:Ent} (he:s.entry n k=some e):Ref (s.use n k) (t.uses n (keptOf k e)):=by
  have:=h.front hn (e:=e) he
  rw [show aput s.found (n,k) e=s.found from aput_same he] at this
  exact this
theorem Ref.makeRoom {s:PS} {t:St} (h:Ref s t) {n:Nat} (hn:n<s.c.parents.length) :
    (s.makeRoom n).used n=(s.used n).take (s.c.entries.toNat - 1)∧(∀ m,m≠n→(s.makeRoom n).used m=s.used m)∧(∀ m j,m≠n→(s.makeRoom n).entry m j=s.entry m j) ∧
      (∀ j,j∈(s.used n).take (s.c.entries.toNat - 1)→(s.makeRoom n).entry n j=s.entry n j)∧(∀ j,j ∉ (s.used n).take (s.c.entries.toNat - 1)→(s.makeRoom n).entry n j=none)∧(s.makeRoom n).found.Pairwise (fun p q=>p.1≠q.1):=by
 have hr:=h.room n hn
 have h1:=h.some1
 have hnone:∀ j,j ∉ s.used n→s.entry n j=none:=fun j hj=>by
   cases he:s.entry n j with
   | none=>rfl
   | some e=>exact absurd ((h.has n hn j).2 (by rw [he];rfl)) hj
 unfold PS.makeRoom
 by_cases hl:((s.used n).length:Int)<s.c.entries
 ·rw [if_pos hl,take_all (by omega)]
  exact ⟨rfl,fun _ _=>rfl,fun _ _ _=>rfl,fun _ _=>rfl,hnone,h.apartE⟩
 ·rw [if_neg hl]
  have hlen:(s.used n).length=s.c.entries.toNat:=by omega
  have hne:s.used n≠[]:=fun e=>by rw [e] at hlen;simp at hlen;omega
  have hdl:(s.used n).take (s.c.entries.toNat - 1)=(s.used n).dropLast:=by rw [List.dropLast_eq_take,hlen]
  have hlast:(s.used n).getLastD none8=(s.used n).getLast hne:=by rw [List.getLastD_eq_getLast?,List.getLast?_eq_some_getLast hne];rfl
  have hspl:s.used n=(s.used n).dropLast ++ [(s.used n).getLast hne]:=(List.dropLast_concat_getLast hne).symm
  have hnd:=h.nodup n hn
  rw [hspl] at hnd
  have hnl:(s.used n).getLast hne ∉ (s.used n).dropLast:=fun hm=>(List.nodup_append.1 hnd).2.2 _ hm _ (List.mem_singleton.2 rfl) rfl
  have hent:∀ m j,aget (adel s.found (n,(s.used n).getLast hne)) (m,j)=if (n,(s.used n).getLast hne)=(m,j) then none else s.entry m j:=fun m j=>aget_adel h.apartE _ _
  rw [hdl,hlast]
  refine ⟨by show (if n=n then _ else _)=_;rw [if_pos rfl],fun m hm=>by show (if m=n then _ else _)=_;rw [if_neg hm],fun m j hm=>?_,fun j hj=>?_,fun j hj=>?_,h.apartE.sublist (adel_sub _ _)⟩
  ·show aget (adel s.found _) (m,j)=_
   rw [hent,if_neg (fun e=>hm (by cases e;rfl))]
  ·show aget (adel s.found _) (n,j)=_
   rw [hent,if_neg (fun e=>hnl (by injection e with _ e;rw [e];exact hj))]
  ·show aget (adel s.found _) (n,j)=_
   rw [hent]
   split
   ·rfl
   ·next e =>
    refine hnone j (fun hm=>?_)
    rw [hspl] at hm
    rcases List.mem_append.1 hm with hm|hm
    ·exact hj hm
    ·exact e (by rw [List.mem_singleton.1 hm])
theorem Ref.storeNew {s:PS} {t:St} (h:Ref s t) {n:Nat} (hn:n<s.c.parents.length) {k:ByteArray} {e:Ent} (he:s.entry n k=none) :
    Ref (({ (s.makeRoom n).keep n k with found:=aput (s.makeRoom n).found (n,k) e }:PS).use n k) (t.uses n (keptOf k e)):=by
 obtain ⟨m1,m2,m3,m4,m5,m6⟩:=h.makeRoom hn
 have hku:k ∉ s.used n:=fun hm=>by rw [h.has n hn k,he] at hm;cases hm
 have h1:=h.some1
 have hr:=h.room n hn
 generalize hU:(s.used n).take (s.c.entries.toNat - 1)=U at *
 have hUs:∀ x,x∈U→x∈s.used n:=fun x hx=>by rw [← hU] at hx;exact List.mem_of_mem_take hx
 have hUk:k ∉ U:=fun hm=>hku (hUs k hm)
 have hUn:U.Nodup:=by rw [← hU];exact (h.nodup n hn).sublist (List.take_sublist _ _)
 have hUl:(U.length:Int)+1≤s.c.entries:=by rw [← hU,List.length_take];omega
 generalize hS:(({ (s.makeRoom n).keep n k with found:=aput (s.makeRoom n).found (n,k) e }:PS).use n k)=s' at *
 have hmk:(s.makeRoom n).c=s.c∧(s.makeRoom n).recs=s.recs∧(s.makeRoom n).clk=s.clk∧(s.makeRoom n).fts=s.fts∧(s.makeRoom n).serial=s.serial∧(s.makeRoom n).net=s.net∧(s.makeRoom n).answers=s.answers:=by
   unfold PS.makeRoom;split <;> exact ⟨rfl,rfl,rfl,rfl,rfl,rfl,rfl⟩
 have hul:s'.used n=k :: U:=by
   rw [← hS]
   show (if n=n then useL k (if n=n then (s.makeRoom n).used n ++ [k] else _) else _)=_
   rw [if_pos rfl,if_pos rfl,m1,useL_nodup (List.nodup_append.2 ⟨hUn,List.pairwise_singleton _ _,fun a ha b hb e=>hUk (by rw [← List.mem_singleton.1 hb,← e];exact ha)⟩) (by simp)]
   congr 1
   rw [List.filter_append,List.filter_cons_of_neg (by simp)]
   simp
   intro a ha e
   exact hUk (e ▸ ha)
 have hent:∀ m j,s'.entry m j=if (n,k)=(m,j) then some e else (s.makeRoom n).entry m j:=fun m j=>by rw [← hS];exact aget_aput (s.makeRoom n).found (n,k) (m,j) e
 unfold Tier.St.uses
 refine h.cacheStep (s':=s') hn (by rw [← hS];exact hmk.1) (by rw [← hS];exact hmk.2.1) (by rw [← hS];exact hmk.2.2.1) (by rw [← hS];exact hmk.2.2.2.1) (by rw [← hS];exact hmk.2.2.2.2.1) (by rw [← hS];exact hmk.2.2.2.2.2.1) (by rw [← hS];exact hmk.2.2.2.2.2.2) (by rw [← hS];exact aput_keys m6) (fun m j hm=>?_) (fun m hm=>?_) ?_ (fun j=>?_) ?_ ?_
 ·rw [hent,if_neg (fun e=>hm (by cases e;rfl)),m3 m j hm]
 ·rw [← hS]
  show (if m=n then _ else if m=n then _ else (s.makeRoom n).used m)=_
  rw [if_neg hm,if_neg hm,m2 m hm]
 ·rw [hul,h.ents n hn,h.c,List.map_cons]
  have h2:s'.kept n k=keptOf k e:=by unfold PS.kept;rw [hent,if_pos rfl];rfl
  have hfil:((s.used n).map (s.kept n)).filter (fun x=>decide (x.key≠(keptOf k e).key))=(s.used n).map (s.kept n):=by
    refine List.filter_eq_self.2 (fun x hx=>?_)
    obtain ⟨y,hy,rfl⟩:=List.mem_map.1 hx
    exact decide_eq_true (fun e':y=k=>hku (e' ▸ hy))
  have htn:s.c.entries.toNat=(s.c.entries.toNat - 1)+1:=by omega
  rw [h2,hfil,htn,List.take_succ_cons,← List.map_take,hU]
  congr 1
  refine List.map_congr_left (fun x hx=>?_)
  unfold PS.kept
  rw [hent,if_neg (fun e=>hUk (by cases e;exact hx)),m4 x hx]
 ·rw [hul,hent]
  by_cases e:j=k
  ·subst e;simp
  ·rw [if_neg (fun e'=>e (by cases e';rfl))]
   by_cases hj:j∈U
   ·rw [m4 j hj,← h.has n hn j];simp [e,hj,hUs j hj]
   ·rw [m5 j hj];simp [e,hj]
 ·rw [hul];exact List.nodup_cons.2 ⟨hUk,hUn⟩
 ·rw [hul,List.length_cons];omega
theorem Ref.store {s:PS} {t:St} (h:Ref s t) {n:Nat} (hn:n<s.c.parents.length) (k:ByteArray) (e:Ent):Ref (s.store n k e) (t.uses n (keptOf k e)):=by
  unfold PS.store
  split
  ·next e0 he=>exact h.front hn he
  ·next he=>exact h.storeNew hn he
theorem aput_perm {κ ε:Type} [DecidableEq κ] (k:κ) (e:ε):∀ (l:List (κ × ε)),(aput l k e).Perm (adel l k ++ [(k,e)])
  | []=>List.Perm.refl _
  | q :: r=>by
    unfold aput adel
    split
    ·exact (List.perm_append_comm (l₁:=[(k,e)]) (l₂:=r))
    ·exact (aput_perm k e r).cons q
theorem ftsOf_perm {l l':List ((Nat × ByteArray) × Ft)} (h:l.Perm l') (n:Nat):(ftsOf l n).Perm (ftsOf l' n):=(h.filter _).map _
theorem ftsOf_append (l l':List ((Nat × ByteArray) × Ft)) (n:Nat):ftsOf (l ++ l') n=ftsOf l n ++ ftsOf l' n:=by simp [ftsOf]
theorem ftsOf_adel_other {n m:Nat} (hm:m≠n) (k:ByteArray):∀ (l:List ((Nat × ByteArray) × Ft)),ftsOf (adel l (n,k)) m=ftsOf l m
  | []=>rfl
  | q :: r=>by
    have ih:=ftsOf_adel_other hm k r
    unfold ftsOf at *
    unfold adel
    split
    ·next e=>rw [List.filter_cons_of_neg (by rw [e];simpa using Ne.symm hm)]
    ·by_cases hq:q.1.1=m
     ·rw [List.filter_cons_of_pos (by simpa using hq),List.filter_cons_of_pos (by simpa using hq),List.map_cons,List.map_cons,ih]
     ·rw [List.filter_cons_of_neg (by simpa using hq),List.filter_cons_of_neg (by simpa using hq),ih]
theorem ftsOf_adel_same (n:Nat) (k:ByteArray):∀ (l:List ((Nat × ByteArray) × Ft)),l.Pairwise (fun p q=>p.1≠q.1)→ftsOf (adel l (n,k)) n=(ftsOf l n).filter (fun f=>decide (f.key≠k))
  | [],_=>rfl
  | q :: r,h=>by
    obtain ⟨h1,h2⟩:=List.pairwise_cons.1 h
    have ih:=ftsOf_adel_same n k r h2
    unfold ftsOf at *
    unfold adel
    split
    ·next e =>
     rw [List.filter_cons_of_pos (by rw [e];simp),List.map_cons,List.filter_cons_of_neg (by simp [ftcOf,e])]
     symm
     refine List.filter_eq_self.2 (fun f hf=>?_)
     obtain ⟨p,hp,rfl⟩:=List.mem_map.1 hf
     obtain ⟨hp1,hp2⟩:=List.mem_filter.1 hp
     have hp2:=of_decide_eq_true hp2
     refine decide_eq_true (fun e':p.1.2=k=>h1 p hp1 ?_)
     rw [e]
     exact (Prod.ext hp2 e').symm
    ·next e =>
     by_cases hq:q.1.1=n
     ·rw [List.filter_cons_of_pos (by simpa using hq),List.filter_cons_of_pos (by simpa using hq),List.map_cons,List.map_cons,List.filter_cons_of_pos,ih]
      refine decide_eq_true (fun e':q.1.2=k=>e (Prod.ext hq e'))
     ·rw [List.filter_cons_of_neg (by simpa using hq),List.filter_cons_of_neg (by simpa using hq),ih]
theorem Ref.ftsStep {s:PS} {t:St} (h:Ref s t) {n:Nat} (hn:n<s.c.parents.length) {F:List ((Nat × ByteArray) × Ft)} {S:Int} {N:List Mes} {l:List Ftc} (hp:(ftsOf F n).Perm l) (ho:∀ m,m≠n→(ftsOf F m).Perm (ftsOf s.fts m)) (hap:F.Pairwise (fun p q=>p.1≠q.1)) :
    Ref { s with fts:=F,serial:=S,net:=N } { t.setCac n { t.cac n with fts:=l } with serial:=S,net:=N }:=by
 have hnl:n<t.caches.length:=by rw [h.len];exact hn
 have hcac:∀ m,({ t.setCac n { t.cac n with fts:=l } with serial:=S,net:=N }:St).cac m=if m=n∧n<t.caches.length then { t.cac n with fts:=l } else t.cac m:=fun m=>Tier.cac_set t n m _
 refine ⟨h.c,h.items,(Tier.length_set t n _).trans h.len,fun m hm=>?_,fun m hm=>?_,h.has,h.nodup,h.room,fun m hm=>?_,hap,h.apartE,h.some1,rfl,rfl,h.answers⟩
 ·rw [hcac]
  split
  ·next e=>rw [e.1];exact h.clock n hn
  ·exact h.clock m hm
 ·rw [hcac]
  split
  ·next e=>rw [e.1];exact h.ents n hn
  ·exact h.ents m hm
 ·rw [hcac]
  by_cases e:m=n
  ·subst e;rw [if_pos ⟨rfl,hnl⟩];exact hp
  ·rw [if_neg (fun e'=>e e'.1)];exact (ho m e).trans (h.fts m hm)
theorem adel_keys {κ ε:Type} [DecidableEq κ] {l:List (κ × ε)} (h:l.Pairwise (fun p q=>p.1≠q.1)) (k:κ):(adel l k).Pairwise (fun p q=>p.1≠q.1):=h.sublist (adel_sub _ _)
theorem Ref.over {s:PS} {t:St} (h:Ref s t) {n:Nat} (hn:n<s.c.parents.length) (k:ByteArray):Ref (s.over n k) (t.over n k):=by
  have:=h.ftsStep hn (F:=adel s.fts (n,k)) (S:=s.serial) (N:=s.net) (l:=(t.cac n).fts.filter fun f=>decide (f.key≠k)) (by rw [ftsOf_adel_same n k s.fts h.apart];exact (h.fts n hn).filter _) (fun m hm=>by rw [ftsOf_adel_other hm]) (adel_keys h.apart _)
  unfold PS.over Tier.St.over
  have e:({ t.setCac n { t.cac n with fts:=(t.cac n).fts.filter fun f=>decide (f.key≠k) } with serial:=s.serial,net:=s.net }:St)=t.setCac n { t.cac n with fts:=(t.cac n).fts.filter fun f=>decide (f.key≠k) }:=by
    rw [← h.serial,← h.net];rfl
  rw [e] at this
  exact this
theorem over_none {t:St} {n:Nat} {k:ByteArray} (hn:n<t.caches.length) (h:t.fetch n k=none):t.over n k=t:=by
  have hf:(t.cac n).fts.filter (fun f=>decide (f.key≠k))=(t.cac n).fts:=List.filter_eq_self.2 (fun f hf=>decide_eq_true (fun e=>by
    have:=List.find?_eq_none.1 h f hf
    exact this (decide_eq_true e)))
  unfold Tier.St.over Tier.St.setCac
  rw [hf]
  have:t.caches.set n (t.cac n)=t.caches:=by
    unfold Tier.St.cac
    rw [List.getD_eq_getElem?_getD,List.getElem?_eq_getElem hn]
    simp
  show ({ t with caches:=t.caches.set n (t.cac n) }:St)=t
  rw [this]
theorem Ref.sends {s:PS} {t:St} (h:Ref s t) {n:Nat} (hn:n<s.c.parents.length) (k:ByteArray) (tg:Int) (l:List Wt) (v:Value):Ref (s.fetch n k tg l v) ((t.over n k).sends n k tg (l.map wtrOf)):=by
  have ho:=h.over hn k
  have hn':n<(s.over n k).c.parents.length:=hn
  have hp:(ftsOf (aput s.fts (n,k) ⟨s.serial+1,s.clk n,l,v⟩) n).Perm (((t.over n k).cac n).fts ++ [⟨k,(t.over n k).serial+1,((t.over n k).cac n).clock,l.map wtrOf⟩]):=by
    refine (ftsOf_perm (aput_perm _ _ _) n).trans ?_
    rw [ftsOf_append]
    refine (ho.fts n hn').append ?_
    rw [ho.serial,ho.clock n hn']
    have:ftsOf [((n,k),(⟨s.serial+1,s.clk n,l,v⟩:Ft))] n=[⟨k,s.serial+1,s.clk n,l.map wtrOf⟩]:=by simp [ftsOf,ftcOf]
    rw [this]
    exact List.Perm.refl _
  have:=ho.ftsStep hn' (S:=s.serial+1) (N:=s.net ++ [⟨1,n,s.c.parents.getD n 0,k,s.serial+1,tg,0,0,none8⟩]) hp (fun m hm=>by
    refine (ftsOf_perm (aput_perm _ _ _) m).trans ?_
    rw [ftsOf_append]
    have:ftsOf [((n,k),(⟨s.serial+1,s.clk n,l,v⟩:Ft))] m=[]:=by simp [ftsOf,Ne.symm hm]
    rw [this,List.append_nil]
    exact List.Perm.refl _) (aput_keys h.apart)
  unfold PS.fetch Tier.St.sends
  have e1:(t.over n k).serial+1=s.serial+1:=by rw [ho.serial];rfl
  have e2:(t.over n k).net=s.net:=ho.net
  have e3:(t.over n k).c.parents.getD n 0=s.c.parents.getD n 0:=by rw [ho.c];rfl
  rw [e1] at this
  rw [e1,e2,e3]
  exact this
theorem joins_perm (k:ByteArray) (w:Wtr):∀ (l:List Ftc),Tier.Uniq l→∀ f,l.find? (fun f=>decide (f.key=k))=some f→(l.map fun f=>if f.key=k then { f with l:=f.l ++ [w] } else f).Perm (l.filter (fun f=>decide (f.key≠k)) ++ [{ f with l:=f.l ++ [w] }])
  | [],_,f,h=>by cases h
  | x :: r,hu,f,h=>by
    obtain ⟨h1,h2⟩:=List.pairwise_cons.1 hu
    rw [List.find?_cons] at h
    by_cases e:x.key=k
    ·rw [decide_eq_true e] at h
     cases h
     rw [List.map_cons,if_pos e,List.filter_cons_of_neg (by simpa using e)]
     have hr:(r.map fun f=>if f.key=k then { f with l:=f.l ++ [w] } else f)=r:=by
       conv=>rhs;rw [← List.map_id r]
       exact List.map_congr_left (fun y hy=>by rw [if_neg (fun e'=>h1 y hy (e.trans e'.symm))];rfl)
     have hf:r.filter (fun f=>decide (f.key≠k))=r:=List.filter_eq_self.2 (fun y hy=>decide_eq_true (fun e'=>h1 y hy (e.trans e'.symm)))
     rw [hr,hf]
     exact (List.perm_append_comm (l₁:=[_]) (l₂:=r))
    ·rw [decide_eq_false e] at h
     rw [List.map_cons,if_neg e,List.filter_cons_of_pos (by simpa using e)]
     exact (joins_perm k w r h2 f h).cons x
theorem Ref.joins {s:PS} {t:St} (h:Ref s t) {n:Nat} (hn:n<s.c.parents.length) (k:ByteArray) (f:Ft) (hf:aget s.fts (n,k)=some f) (x:Wt) (v:Value):Ref { s with fts:=aput s.fts (n,k) ⟨f.serial,f.sent,f.l ++ [x],v⟩ } (t.joins n k (wtrOf x)):=by
  have hft:t.fetch n k=some (ftcOf ((n,k),f)):=by rw [h.fetch hn k,hf];rfl
  have hp:(ftsOf (aput s.fts (n,k) ⟨f.serial,f.sent,f.l ++ [x],v⟩) n).Perm ((t.cac n).fts.map fun f=>if f.key=k then { f with l:=f.l ++ [wtrOf x] } else f):=by
    refine (ftsOf_perm (aput_perm _ _ _) n).trans ?_
    rw [ftsOf_append,ftsOf_adel_same n k s.fts h.apart]
    refine List.Perm.trans ?_ (joins_perm k (wtrOf x) _ (h.uniq hn) _ hft).symm
    refine ((h.fts n hn).filter _).append ?_
    have:ftsOf [((n,k),(⟨f.serial,f.sent,f.l ++ [x],v⟩:Ft))] n=[{ ftcOf ((n,k),f) with l:=(ftcOf ((n,k),f)).l ++ [wtrOf x] }]:=by simp [ftsOf,ftcOf]
    rw [this]
  have:=h.ftsStep hn (S:=s.serial) (N:=s.net) hp (fun m hm=>by
    refine (ftsOf_perm (aput_perm _ _ _) m).trans ?_
    rw [ftsOf_append,ftsOf_adel_other hm]
    have:ftsOf [((n,k),(⟨f.serial,f.sent,f.l ++ [x],v⟩:Ft))] m=[]:=by simp [ftsOf,Ne.symm hm]
    rw [this,List.append_nil]) (aput_keys h.apart)
  unfold Tier.St.joins
  have e:∀ l,({ t.setCac n { t.cac n with fts:=l } with serial:=s.serial,net:=s.net }:St)=t.setCac n { t.cac n with fts:=l }:=fun l=>by
    rw [← h.serial,← h.net];rfl
  rw [e] at this
  exact this
theorem Ref.tellAs {s:PS} {t:St} {n:Nat} {k:ByteArray} {e:Ent} {x:Wt} {a:Int} (hu:Ref s (t.uses n (keptOf k e))) (hnet:t.net=s.net) (hans:t.answers=s.answers) (ha:t.age n (keptOf k e)=a) (hx:0≤x.child):Ref (s.tell n x (seen k e a)) (t.toldBy n (keptOf k e) (wtrOf x)):=by
  unfold PS.tell Tier.St.toldBy
  rw [ha]
  by_cases hc:x.child=0
  ·rw [if_pos hc,if_pos ((node_neg hx).2 hc)]
   exact hu.talk rfl rfl rfl rfl rfl rfl rfl rfl rfl rfl rfl hu.net (by show t.answers ++ _=s.answers ++ _;rw [hans];rfl)
  ·rw [if_neg hc,if_neg (fun e=>hc ((node_neg hx).1 e))]
   by_cases ht:x.tag=e.ver
   ·rw [if_pos (show x.tag=(seen k e a).ver from ht),if_pos (show (wtrOf x).tag=(keptOf k e).ver from ht)]
    exact hu.talk rfl rfl rfl rfl rfl rfl rfl rfl rfl rfl rfl (by show t.net ++ _=s.net ++ _;rw [hnet,node_pos hc];rfl) hu.answers
   ·rw [if_neg (show ¬ x.tag=(seen k e a).ver from ht),if_neg (show ¬ (wtrOf x).tag=(keptOf k e).ver from ht)]
    exact hu.talk rfl rfl rfl rfl rfl rfl rfl rfl rfl rfl rfl (by show t.net ++ _=s.net ++ _;rw [hnet,node_pos hc];rfl) hu.answers
theorem Ref.told {s:PS} {t:St} (h:Ref s t) {n:Nat} (hn:n<s.c.parents.length) {k:ByteArray} {e:Ent} (he:s.entry n k=some e) {x:Wt} (hx:0≤x.child):Ref ((s.use n k).tell n x (seen k e (ageAt s.c.drift (s.clk n) e))) (t.toldBy n (keptOf k e) (wtrOf x)) :=
  (h.use hn he).tellAs h.net h.answers (h.age hn k e) hx
theorem useL_front (k:ByteArray) (r:List ByteArray):useL k (k :: r)=k :: r:=by
  unfold useL placeOf
  simp
theorem use_front {s:PS} {n:Nat} {k:ByteArray} {r:List ByteArray} (h:s.used n=k :: r):s.use n k=s:=by
  unfold PS.use
  have:(fun m=>if m=n then useL k (s.used n) else s.used m)=s.used:=by
    funext m
    split
    ·next e=>rw [e,h];exact useL_front k r
    ·rfl
  rw [this]
theorem tell_used (s:PS) (n:Nat) (x:Wt) (e:See):(s.tell n x e).used=s.used∧(s.tell n x e).found=s.found∧(s.tell n x e).c=s.c∧(s.tell n x e).clk=s.clk:=by
  unfold PS.tell
  split
  ·exact ⟨rfl,rfl,rfl,rfl⟩
  ·split <;> exact ⟨rfl,rfl,rfl,rfl⟩
theorem Ref.tellAll {n:Nat} {k:ByteArray} {e:Ent} {r:List ByteArray} {a:Int}:∀ (l:List Wt) {s:PS} {t:St},Ref s t→n<s.c.parents.length→s.entry n k=some e→s.used n=k :: r→ageAt s.c.drift (s.clk n) e=a→(∀ x∈l,0≤x.child)→Ref (s.tellL n (seen k e a) l) (t.tellAll n k (l.map wtrOf))
  | [],_,_,h,_,_,_,_,_=>h
  | x :: l,s,t,h,hn,he,hu,ha,hx=>by
    obtain ⟨u1,u2,u3,u4⟩:=tell_used s n x (seen k e a)
    have h1:=h.told hn he (hx x (by simp))
    rw [use_front hu,ha] at h1
    have ht:t.entry n k=some (keptOf k e):=by rw [h.entry hn k,he];rfl
    have:=Ref.tellAll (a:=a) l h1 (by rw [u3];exact hn) (show aget (s.tell n x (seen k e a)).found (n,k)=some e by rw [u2];exact he) (by rw [u1];exact hu) (by rw [u3,u4,ha]) (fun y hy=>hx y (by simp [hy]))
    unfold PS.tellL Tier.St.tellAll at *
    rw [List.foldl_cons,List.map_cons,List.foldl_cons,ht]
    exact this
theorem Ref.refuseAll {n:Nat} {k:ByteArray}:∀ (l:List Wt) {s:PS} {t:St},Ref s t→(∀ x∈l,0≤x.child)→Ref (s.refuseL n k l) (t.refuseAll n k (l.map wtrOf))
  | [],_,_,h,_=>h
  | x :: l,s,t,h,hx=>by
    have:=Ref.refuseAll (n:=n) (k:=k) l (h.refuse n k x (hx x (by simp))) (fun y hy=>hx y (by simp [hy]))
    unfold PS.refuseL Tier.St.refuseAll at *
    rw [List.foldl_cons,List.map_cons,List.foldl_cons]
    exact this
theorem Ref.wait {s:PS} {t:St} (h:Ref s t) {n:Nat} (hn:n<s.c.parents.length) (k:ByteArray) {x:Wt} (hx:0≤x.child) (v:Value) :
    Ref (s.wait n k x v) (if t.c.waiters≤t.waiting n then t.refused n k (wtrOf x) else if (t.fetch n k).isSome then t.joins n k (wtrOf x) else t.sends n k (s.tag n k) [wtrOf x]):=by
 unfold PS.wait
 rw [h.c,h.waiting hn]
 split
 ·exact h.refuse n k x hx
 ·have hft:=h.fetch hn k
  cases hf:aget s.fts (n,k) with
  | none =>
    rw [hf] at hft
    have hft:t.fetch n k=none:=hft
    rw [hft]
    have:=h.sends hn k (s.tag n k) [x] v
    rw [over_none (by rw [h.len];exact hn) hft] at this
    exact this
  | some f =>
    rw [hf] at hft
    rw [hft]
    exact h.joins hn k f hf x v
theorem Ref.asked {s:PS} {t:St} (h:Ref s t) {n:Nat} (hn:n<s.c.parents.length) (k:ByteArray) {x:Wt} (hx:0≤x.child) (v:Value):Ref (s.asked n k x v) (t.wants n k (wtrOf x)):=by
  have hw:=h.wait hn k hx v
  unfold PS.asked Tier.St.wants
  unfold PS.tag at hw
  rw [h.entry hn k]
  cases he:s.entry n k with
  | none=>rw [he] at hw;exact hw
  | some e =>
    rw [he] at hw
    show Ref (if _ then _ else _) (if t.age n (keptOf k e)≤t.c.budget then _ else _)
    rw [h.age hn k e,h.c]
    split
    ·exact h.told hn he hx
    ·rw [← h.c];exact hw
theorem Tier.cac_setSame {t:St} {n:Nat} (hn:n<t.caches.length) (c:Cac):(t.setCac n c).cac n=c:=by rw [Tier.cac_set,if_pos ⟨rfl,hn⟩]
theorem uses_over {t:St} {n:Nat} (hn:n<t.caches.length) (k:ByteArray) (e:Kept):(t.over n k).uses n e=(t.uses n e).over n k:=by
  have h1:(t.over n k).cac n={ t.cac n with fts:=(t.cac n).fts.filter fun f=>decide (f.key≠k) }:=Tier.cac_setSame hn _
  have h2:(t.uses n e).cac n={ t.cac n with ents:=(e :: (t.cac n).ents.filter fun x=>decide (x.key≠e.key)).take t.c.entries.toNat }:=Tier.cac_setSame hn _
  have e1:(t.over n k).uses n e=(t.over n k).setCac n { (t.over n k).cac n with ents:=(e :: ((t.over n k).cac n).ents.filter fun x=>decide (x.key≠e.key)).take t.c.entries.toNat }:=rfl
  have e2:(t.uses n e).over n k=(t.uses n e).setCac n { (t.uses n e).cac n with fts:=((t.uses n e).cac n).fts.filter fun f=>decide (f.key≠k) }:=rfl
  rw [e1,e2,h1,h2]
  unfold Tier.St.over Tier.St.uses Tier.St.setCac
  simp
theorem Ref.learn {s:PS} {t:St} (h:Ref s t) {n:Nat} (hn:n<s.c.parents.length) (m:Mes) (b:Int) :
    ∃ e,(s.learn n m b).entry n m.key=some e∧t.better n m b=keptOf m.key e∧Ref ((s.learn n m b).use n m.key) (t.uses n (keptOf m.key e))∧(∃ r,((s.learn n m b).use n m.key).used n=m.key :: r)∧(s.learn n m b).c=s.c∧(s.learn n m b).clk=s.clk:=by
 have hst:∀ e:Ent,(s.store n m.key e).entry n m.key=some e∧Ref ((s.store n m.key e).use n m.key) (t.uses n (keptOf m.key e))∧(∃ r,((s.store n m.key e).use n m.key).used n=m.key :: r)∧(s.store n m.key e).c=s.c∧(s.store n m.key e).clk=s.clk:=fun e=>by
   have hr:=h.store hn m.key e
   have hce:(s.store n m.key e).c=s.c∧(s.store n m.key e).clk=s.clk:=by
     unfold PS.store
     split
     ·exact ⟨rfl,rfl⟩
     ·unfold PS.makeRoom;split <;> exact ⟨rfl,rfl⟩
   have hee:(s.store n m.key e).entry n m.key=some e:=by
     have:(s.store n m.key e).entry n m.key=some e:=by
       unfold PS.store
       split
       ·show aget (aput s.found (n,m.key) e) (n,m.key)=_
        rw [aget_aput,if_pos rfl]
       ·show aget (aput (s.makeRoom n).found (n,m.key) e) (n,m.key)=_
        rw [aget_aput,if_pos rfl]
     exact this
   have hn':n<(s.store n m.key e).c.parents.length:=by rw [hce.1];exact hn
   have hin:m.key∈(s.store n m.key e).used n:=by rw [hr.has n hn',hee];rfl
   have hfr:∃ r,(s.store n m.key e).used n=m.key :: r:=by
     have h0:∃ u:PS,s.store n m.key e=u.use n m.key:=by
       unfold PS.store
       split
       ·exact ⟨_,rfl⟩
       ·exact ⟨_,rfl⟩
     obtain ⟨u,hu⟩:=h0
     have hm:useL m.key (u.used n)=(s.store n m.key e).used n:=by rw [hu];show _=(if n=n then _ else _);rw [if_pos rfl]
     rw [← hm] at hin ⊢
     unfold useL at *
     split
     ·next hp=>rw [if_pos hp] at hin;exact absurd hin (placeOf_none hp)
     ·exact ⟨_,rfl⟩
   obtain ⟨r,hfr⟩:=hfr
   rw [use_front hfr]
   exact ⟨hee,hr,⟨r,hfr⟩,hce.1,hce.2⟩
 have hent:=h.entry hn m.key
 have hck:=h.clock n hn
 unfold PS.learn Tier.St.better
 cases he:s.entry n m.key with
 | none =>
   rw [he] at hent
   rw [show t.entry n m.key=none from hent,hck]
   obtain ⟨a,b',c,d⟩:=hst ⟨m.ver,m.pres,m.val,b,s.clk n⟩
   exact ⟨_,a,rfl,b',c,d⟩
 | some e =>
   rw [he] at hent
   rw [show t.entry n m.key=some (keptOf m.key e) from hent,hck]
   dsimp only
   by_cases h1:e.ver<m.ver
   ·rw [if_pos h1,if_pos (show (keptOf m.key e).ver<m.ver from h1)]
    obtain ⟨a,b',c,d⟩:=hst ⟨m.ver,m.pres,m.val,b,s.clk n⟩
    exact ⟨_,a,rfl,b',c,d⟩
   ·rw [if_neg h1,if_neg (show ¬ (keptOf m.key e).ver<m.ver from h1),h.age hn m.key e]
    by_cases h2:e.ver=m.ver∧b≤ageAt s.c.drift (s.clk n) e
    ·rw [if_pos h2,if_pos (show (keptOf m.key e).ver=m.ver∧_ from h2)]
     obtain ⟨a,b',c,d⟩:=hst ⟨e.ver,e.pres,e.val,b,s.clk n⟩
     exact ⟨_,a,rfl,b',c,d⟩
    ·rw [if_neg h2,if_neg (show ¬ ((keptOf m.key e).ver=m.ver∧_) from h2)]
     have hin:m.key∈s.used n:=by rw [h.has n hn,he];rfl
     refine ⟨e,he,rfl,h.use hn he,⟨(s.used n).filter (fun x=>decide (x≠m.key)),?_⟩,rfl,rfl⟩
     show (if n=n then _ else _)=_
     rw [if_pos rfl,useL_nodup (h.nodup n hn) hin]
theorem Ref.answered {s:PS} {t:St} (h:Ref s t) {n:Nat} (hn:n<s.c.parents.length) (m:Mes) (hx:∀ f,aget s.fts (n,m.key)=some f→∀ x∈f.l,0≤x.child) (hv:m.kind=3→m.ver≠-1):Ref (s.answered n m) (t.answered n m):=by
  have hnl:n<t.caches.length:=by rw [h.len];exact hn
  unfold PS.answered Tier.St.answered
  rw [h.fetch hn m.key]
  cases hf:aget s.fts (n,m.key) with
  | none=>exact h
  | some f =>
    have hx:=hx f hf
    show Ref (if f.serial≠m.serial then s else _) (if f.serial≠m.serial then t else _)
    split
    ·exact h
    ·split
     ·exact (h.over hn m.key).refuseAll f.l hx
     ·have hiff:(m.kind=3∧s.tag n m.key≠m.ver) ↔ (m.kind=3∧∀ e,t.entry n m.key=some e→e.ver≠m.ver):=by
        refine and_congr_right (fun hk=>?_)
        unfold PS.tag
        rw [h.entry hn m.key]
        cases s.entry n m.key with
        | none =>
          constructor
          ·intro _ e he;cases he
          ·intro _ e;exact hv hk e.symm
        | some e0 =>
          constructor
          ·intro h1 e he;cases he;exact h1
          ·intro h1;exact h1 _ rfl
      by_cases hc:m.kind=3∧s.tag n m.key≠m.ver
      ·rw [if_pos hc,if_pos (hiff.1 hc)]
       exact h.sends hn m.key (-1) f.l f.v
      ·rw [if_neg hc,if_neg (fun e=>hc (hiff.2 e))]
       have hb:m.age+elap s.c.drift (s.clk n - f.sent)=m.age+Tier.elapsed t.c.drift ((t.cac n).clock - (ftcOf ((n,m.key),f)).sent):=by
         rw [elapsed_elap,h.c,h.clock n hn];rfl
       dsimp only
       rw [← hb]
       generalize m.age+elap s.c.drift (s.clk n - f.sent)=b
       obtain ⟨e,he,hbt,hr,⟨r,hfr⟩,hc1,hc2⟩:=h.learn hn m b
       rw [he,hbt,uses_over hnl]
       have hn1:n<((s.learn n m b).use n m.key).c.parents.length:=by show n<(s.learn n m b).c.parents.length;rw [hc1];exact hn
       have ho:=hr.over hn1 m.key
       have hage:((t.uses n (keptOf m.key e)).over n m.key).age n (keptOf m.key e)=ageAt (s.learn n m b).c.drift ((s.learn n m b).clk n) e:=ho.age hn1 m.key e
       have hbud:((t.uses n (keptOf m.key e)).over n m.key).c.budget=(s.learn n m b).c.budget:=by rw [ho.c];rfl
       unfold PS.finish
       rw [hage,hbud]
       dsimp only [Option.getD]
       by_cases hq:ageAt (s.learn n m b).c.drift ((s.learn n m b).clk n) e≤(s.learn n m b).c.budget
       ·rw [if_pos hq,if_pos hq]
        exact Ref.tellAll (r:=r) (a:=ageAt (s.learn n m b).c.drift ((s.learn n m b).clk n) e) f.l ho hn1 he hfr rfl hx
       ·rw [if_neg hq,if_neg hq]
        exact ho.refuseAll f.l hx
theorem Ref.atOrigin {s:PS} {t:St} (h:Ref s t) (m:Mes) (hm:0<m.frm):Ref (s.askedOrigin m) (t.atOrigin m):=by
  unfold PS.askedOrigin Tier.St.atOrigin PS.tell
  have hc:¬ (childOf m).child=0:=by show ¬ m.frm=0;omega
  rw [if_neg hc,h.items m.key]
  dsimp only
  by_cases e:(s.record m.key).ver=m.ver
  ·rw [if_pos (show (childOf m).tag=_ from e.symm),if_pos e]
   exact h.talk rfl rfl rfl rfl rfl rfl rfl rfl rfl rfl rfl (by show t.net ++ _=s.net ++ _;rw [h.net];rfl) h.answers
  ·rw [if_neg (show ¬ (childOf m).tag=_ from fun e'=>e e'.symm),if_neg e]
   exact h.talk rfl rfl rfl rfl rfl rfl rfl rfl rfl rfl rfl (by show t.net ++ _=s.net ++ _;rw [h.net];rfl) h.answers
theorem Ref.arrive {s:PS} {t:St} (h:Ref s t) (m:Mes) (v:Value) (h0:0≤m.to) (h1:m.to<s.c.parents.length) (hfr:m.kind=1→0<m.frm) (hx:∀ n k f,aget s.fts (n,k)=some f→∀ x∈f.l,0≤x.child) (hv:m.kind=3→m.ver≠-1):Ref (s.arrive m v) (t.comes m):=by
  unfold PS.arrive Tier.St.comes
  by_cases hk:m.kind≠1
  ·rw [if_pos hk,if_pos hk]
   exact h.answered (by omega) m (hx _ _) hv
  ·rw [if_neg hk,if_neg hk]
   have hf:=hfr (Classical.not_not.1 hk)
   by_cases ht:m.to=0
   ·rw [if_pos ht,if_neg (by omega)]
    exact h.atOrigin m hf
   ·rw [if_neg ht,if_pos (by omega)]
    have:=h.asked (n:=m.to.toNat) (by omega) m.key (x:=childOf m) (Int.le_of_lt hf) v
    have hw:wtrOf (childOf m)=⟨m.frm,0,m.serial,m.ver⟩:=by
      unfold wtrOf childOf
      dsimp only
      rw [if_neg (by omega)]
    rw [hw] at this
    exact this
end
end Go.Proofs.YtpdkojgepagbnaaGreatDoor
