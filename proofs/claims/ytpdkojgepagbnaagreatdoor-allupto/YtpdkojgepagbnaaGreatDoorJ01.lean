/-
  Plain facts on lists and numbers that the proofs of Rights, Wires and Back use: going from parent to parent comes to node 0 within as many steps as there are nodes, or never.
  A tier as plain data: what each call makes of it, after the document. No program stands in it.
  What is said of every entry, fetch, message and answer of a tier is handed on from call to call.
  The budget: what a client is told was the origin's no longer ago than its age tells, and its age is within the budget; whatever the clocks do, it was the origin's at some time. On the plain data of a tier, call by call.
  Nobody is answered twice, and nobody is forgotten but by a crash: how many wait or are answered under an id, call by call. And: a cache has one fetch and one entry at most for a key, no more entries and no more who wait than it may.
-/
set_option maxRecDepth 100000
set_option maxHeartbeats 8000000
namespace Go.Proofs.YtpdkojgepagbnaaGreatDoor.Nums
def inB (n lo hi:Int):Bool:=decide (lo≤n) && decide (n≤hi)
def goes (zs:List Int):Nat→Nat→Bool
  | 0,_=>false
  | f+1,k=>if k=0 then true else if inB (zs.getD k 0) 0 ((zs.length:Int) - 1) then goes zs f (zs.getD k 0).toNat else false
def comes (zs:List Int):Nat→Int→Bool
  | 0,_=>false
  | f+1,i=>if i=0 then true else if i<0∨(zs.length:Int)≤i then false else comes zs f (zs.getD i.toNat 0)
theorem inB_iff {n lo hi:Int}:inB n lo hi=true ↔ lo≤n∧n≤hi:=by simp [inB]
theorem goes_comes (zs:List Int):∀ (f k:Nat),k<zs.length→goes zs f k=comes zs f (k:Int):=by
  intro f
  induction f with
  | zero=>intro k _;rfl
  | succ f ih =>
    intro k hk
    rw [goes,comes]
    by_cases h0:k=0
    ·simp [h0]
    ·rw [if_neg h0,if_neg (show ¬ (k:Int)=0 by omega),if_neg (show ¬ ((k:Int)<0∨(zs.length:Int)≤(k:Int)) by omega),Int.toNat_natCast]
     by_cases hb:inB (zs.getD k 0) 0 ((zs.length:Int) - 1)=true
     ·rw [if_pos hb]
      have h2:=inB_iff.1 hb
      rw [ih _ (by omega),Int.toNat_of_nonneg h2.1]
     ·rw [if_neg hb]
      rw [inB_iff] at hb
      cases f with
      | zero=>rfl
      | succ f=>rw [comes,if_neg (by omega),if_pos (by omega)]
def count (p:Nat→Bool) (n:Nat):Nat:=(List.range n).countP p
theorem countP_lt {p q:Nat→Bool}:∀ (l:List Nat),(∀ x∈l,p x=true→q x=true)→(∃ x∈l,p x=false∧q x=true)→l.countP p<l.countP q:=by
  intro l
  induction l with
  | nil=>intro _ h;obtain ⟨x,hx,_⟩:=h;cases hx
  | cons a l ih =>
    intro hle hex
    have hle':l.countP p≤l.countP q:=List.countP_mono_left (fun x hx h=>hle x (List.mem_cons_of_mem _ hx) h)
    rw [List.countP_cons,List.countP_cons]
    by_cases hpa:p a=true
    ·have hqa:=hle a List.mem_cons_self hpa
     rw [if_pos hpa,if_pos hqa]
     obtain ⟨x,hx,h1,h2⟩:=hex
     rcases List.mem_cons.1 hx with rfl|hx'
     ·rw [hpa] at h1;cases h1
     ·have:=ih (fun y hy h=>hle y (List.mem_cons_of_mem _ hy) h) ⟨x,hx',h1,h2⟩
      omega
    ·rw [if_neg hpa]
     by_cases hqa:q a=true
     ·rw [if_pos hqa];omega
     ·rw [if_neg hqa]
      obtain ⟨x,hx,h1,h2⟩:=hex
      rcases List.mem_cons.1 hx with rfl|hx'
      ·exact absurd h2 hqa
      ·have:=ih (fun y hy h=>hle y (List.mem_cons_of_mem _ hy) h) ⟨x,hx',h1,h2⟩
       omega
theorem comes_mono (zs:List Int):∀ (f:Nat) (i:Int),comes zs f i=true→comes zs (f+1) i=true:=by
  intro f
  induction f with
  | zero=>intro i h;cases h
  | succ f ih =>
    intro i h
    rw [comes] at h ⊢
    by_cases h0:i=0
    ·simp [h0]
    ·rw [if_neg h0] at h ⊢
     by_cases hb:i<0∨(zs.length:Int)≤i
     ·rw [if_pos hb] at h;cases h
     ·rw [if_neg hb] at h ⊢
      exact ih _ h
def still (zs:List Int) (f:Nat):Prop:=∀ i,comes zs (f+1) i=comes zs f i
theorem still_succ (zs:List Int) (f:Nat) (h:still zs f):still zs (f+1):=by
  intro i
  rw [comes]
  conv=>rhs;rw [comes]
  by_cases h0:i=0
  ·simp [h0]
  ·rw [if_neg h0,if_neg h0]
   by_cases hb:i<0∨(zs.length:Int)≤i
   ·rw [if_pos hb,if_pos hb]
   ·rw [if_neg hb,if_neg hb,h]
theorem still_or (zs:List Int) (hz:0<zs.length):∀ f:Nat,0<f→still zs f∨f+1≤count (fun k=>comes zs (f+1) (k:Int)) zs.length:=by
  intro f
  induction f with
  | zero=>intro h;omega
  | succ f ih =>
    intro _
    by_cases hs:still zs (f+1)
    ·exact .inl hs
    right
    have hex:∃ i,comes zs (f+1+1) i≠comes zs (f+1) i:=by
      apply Classical.byContradiction
      intro hn
      exact hs fun i=>Classical.byContradiction fun hi=>hn ⟨i,hi⟩
    obtain ⟨i,hi⟩:=hex
    have h1:comes zs (f+1) i=false:=by
      cases hc:comes zs (f+1) i with
      | false=>rfl
      | true=>exact absurd ((comes_mono zs _ _ hc).trans hc.symm) hi
    have h2:comes zs (f+1+1) i=true:=by
      cases hc:comes zs (f+1+1) i with
      | true=>rfl
      | false=>exact absurd (hc.trans h1.symm) hi
    have hin:0<i∧i<(zs.length:Int):=by
      rw [comes] at h2
      by_cases h0:i=0
      ·rw [comes,if_pos h0] at h1;cases h1
      ·rw [if_neg h0] at h2
       by_cases hb:i<0∨(zs.length:Int)≤i
       ·rw [if_pos hb] at h2;cases h2
       ·omega
    have hlt:count (fun k=>comes zs (f+1) (k:Int)) zs.length<count (fun k=>comes zs (f+1+1) (k:Int)) zs.length:=by
      refine countP_lt _ (fun x _ h=>comes_mono zs _ _ h) ⟨i.toNat,by rw [List.mem_range];omega,?_,?_⟩
      ·show comes zs (f+1) ((i.toNat:Nat):Int)=false
       rw [Int.toNat_of_nonneg (by omega)];exact h1
      ·show comes zs (f+1+1) ((i.toNat:Nat):Int)=true
       rw [Int.toNat_of_nonneg (by omega)];exact h2
    by_cases hf:0<f
    ·rcases ih hf with hst|hc
     ·exact absurd (still_succ zs f hst) hs
     ·omega
    ·have hf0:f=0:=by omega
     subst hf0
     have h1:0<count (fun k=>comes zs (0+1) (k:Int)) zs.length:=by
       unfold count
       rw [List.countP_pos_iff]
       exact ⟨0,by rw [List.mem_range];omega,by simp [comes]⟩
     omega
theorem comes_enough (zs:List Int) (hz:0<zs.length) (i:Int):comes zs (zs.length+1) i=comes zs zs.length i:=by
  rcases still_or zs hz zs.length hz with h|h
  ·exact h i
  ·have h3:count (fun k=>comes zs (zs.length+1) (k:Int)) zs.length≤zs.length:=by
     unfold count
     have:=List.countP_le_length (p:=fun k:Nat=>comes zs (zs.length+1) (k:Int)) (l:=List.range zs.length)
     rw [List.length_range] at this
     exact this
   omega
theorem goes_is (zs:List Int) (k:Nat) (hk:k<zs.length):goes zs zs.length k=comes zs (zs.length+1) (k:Int):=by
  rw [goes_comes zs _ k hk,comes_enough zs (by omega)]
end Go.Proofs.YtpdkojgepagbnaaGreatDoor.Nums
set_option maxRecDepth 100000
set_option maxHeartbeats 8000000
namespace Go.Proofs.YtpdkojgepagbnaaGreatDoor.Tier
structure Item where
  key:ByteArray
  ver:Int
  pres:Int
  val:ByteArray
structure Kept where
  key:ByteArray
  ver:Int
  pres:Int
  val:ByteArray
  base:Int
  since:Int
structure Wtr where
  node:Int
  id:Int
  serial:Int
  tag:Int
structure Ftc where
  key:ByteArray
  serial:Int
  sent:Int
  l:List Wtr
structure Cac where
  clock:Int
  ents:List Kept
  fts:List Ftc
structure Mes where
  kind:Int
  frm:Int
  to:Int
  key:ByteArray
  serial:Int
  ver:Int
  age:Int
  pres:Int
  val:ByteArray
structure Ans where
  node:Int
  id:Int
  kind:Int
  ver:Int
  pres:Int
  val:ByteArray
  age:Int
structure Conf where
  parents:List Int
  drift:Int
  budget:Int
  entries:Int
  waiters:Int
structure St where
  c:Conf
  items:List Item
  caches:List Cac
  net:List Mes
  answers:List Ans
  serial:Int
def empty:ByteArray:=⟨#[]⟩
def noCac:Cac:=⟨0,[],[]⟩
def new (c:Conf):St:=⟨c,[],List.replicate c.parents.length noCac,[],[],0⟩
def St.item (t:St) (k:ByteArray):Item:=(t.items.find? fun x=>decide (x.key=k)).getD ⟨k,0,0,empty⟩
def St.changes (t:St) (x:Item):St:={ t with items:=t.items.filter (fun y=>decide (y.key≠x.key)) ++ [x] }
def St.cac (t:St) (n:Nat):Cac:=t.caches.getD n noCac
def St.setCac (t:St) (n:Nat) (c:Cac):St:={ t with caches:=t.caches.set n c }
def elapsed (drift d:Int):Int:=(1000000*d+(1000000 - drift) - 1) / (1000000 - drift)
def St.age (t:St) (n:Nat) (e:Kept):Int:=e.base+elapsed t.c.drift ((t.cac n).clock - e.since)
def St.entry (t:St) (n:Nat) (k:ByteArray):Option Kept:=(t.cac n).ents.find? fun e=>decide (e.key=k)
def St.fetch (t:St) (n:Nat) (k:ByteArray):Option Ftc:=(t.cac n).fts.find? fun f=>decide (f.key=k)
def St.fresh (t:St) (n:Nat) (k:ByteArray):Bool:=match t.entry n k with
  | some e=>decide (t.age n e≤t.c.budget)
  | none=>false
def St.uses (t:St) (n:Nat) (e:Kept):St :=
  t.setCac n { t.cac n with ents:=(e :: (t.cac n).ents.filter fun x=>decide (x.key≠e.key)).take t.c.entries.toNat }
def St.waiting (t:St) (n:Nat):Nat:=((t.cac n).fts.map fun f=>f.l.length).sum
def St.refused (t:St) (n:Nat) (k:ByteArray) (w:Wtr):St :=
  if w.node<0 then { t with answers:=t.answers ++ [⟨n,w.id,2,0,0,empty,0⟩] }
  else { t with net:=t.net ++ [⟨4,n,w.node,k,w.serial,0,0,0,empty⟩] }
def St.toldBy (t:St) (n:Nat) (e:Kept) (w:Wtr):St :=
  if w.node<0 then { t.uses n e with answers:=t.answers ++ [⟨n,w.id,1,e.ver,e.pres,e.val,t.age n e⟩] }
  else if w.tag=e.ver then { t.uses n e with net:=t.net ++ [⟨3,n,w.node,e.key,w.serial,e.ver,t.age n e,0,empty⟩] }
  else { t.uses n e with net:=t.net ++ [⟨2,n,w.node,e.key,w.serial,e.ver,t.age n e,e.pres,e.val⟩] }
def St.sends (t:St) (n:Nat) (k:ByteArray) (tag:Int) (l:List Wtr):St :=
  { t.setCac n { t.cac n with fts:=(t.cac n).fts ++ [⟨k,t.serial+1,(t.cac n).clock,l⟩] } with
    serial:=t.serial+1,net:=t.net ++ [⟨1,n,t.c.parents.getD n 0,k,t.serial+1,tag,0,0,empty⟩] }
def St.joins (t:St) (n:Nat) (k:ByteArray) (w:Wtr):St :=
  t.setCac n { t.cac n with fts:=(t.cac n).fts.map fun f=>if f.key=k then { f with l:=f.l ++ [w] } else f }
def St.wants (t:St) (n:Nat) (k:ByteArray) (w:Wtr):St :=
  match t.entry n k with
  | some e =>
    if t.age n e≤t.c.budget then t.toldBy n e w
    else if t.c.waiters≤t.waiting n then t.refused n k w
    else if (t.fetch n k).isSome then t.joins n k w
    else t.sends n k e.ver [w]
  | none =>
    if t.c.waiters≤t.waiting n then t.refused n k w
    else if (t.fetch n k).isSome then t.joins n k w
    else t.sends n k (-1) [w]
def St.taken (t:St) (i:Nat):St:={ t with net:=t.net.take i ++ t.net.drop (i+1) }
def St.over (t:St) (n:Nat) (k:ByteArray):St:=t.setCac n { t.cac n with fts:=(t.cac n).fts.filter fun f=>decide (f.key≠k) }
def St.refuseAll (t:St) (n:Nat) (k:ByteArray) (l:List Wtr):St:=l.foldl (fun t w=>t.refused n k w) t
def St.tellAll (t:St) (n:Nat) (k:ByteArray) (l:List Wtr):St:=l.foldl (fun t w=>match t.entry n k with|some e=>t.toldBy n e w|none=>t) t
def St.better (t:St) (n:Nat) (m:Mes) (base:Int):Kept :=
  match t.entry n m.key with
  | some e =>
    if e.ver<m.ver then ⟨m.key,m.ver,m.pres,m.val,base,(t.cac n).clock⟩
    else if e.ver=m.ver∧base≤t.age n e then { e with base:=base,since:=(t.cac n).clock }
    else e
  | none=>⟨m.key,m.ver,m.pres,m.val,base,(t.cac n).clock⟩
def St.answered (t:St) (n:Nat) (m:Mes):St :=
  match t.fetch n m.key with
  | none=>t
  | some f =>
    if f.serial≠m.serial then t
    else if m.kind=4 then (t.over n m.key).refuseAll n m.key f.l
    else if m.kind=3∧(∀ e,t.entry n m.key=some e→e.ver≠m.ver) then (t.over n m.key).sends n m.key (-1) f.l
    else
      let e:=t.better n m (m.age+elapsed t.c.drift ((t.cac n).clock - f.sent))
      let u:=(t.over n m.key).uses n e
      if u.age n e≤u.c.budget then u.tellAll n m.key f.l else u.refuseAll n m.key f.l
def St.atOrigin (t:St) (m:Mes):St :=
  let x:=t.item m.key
  if x.ver=m.ver then { t with net:=t.net ++ [⟨3,0,m.frm,m.key,m.serial,x.ver,0,0,empty⟩] }
  else { t with net:=t.net ++ [⟨2,0,m.frm,m.key,m.serial,x.ver,0,x.pres,x.val⟩] }
def St.comes (t:St) (m:Mes):St :=
  if m.kind≠1 then t.answered m.to.toNat m
  else if 0<m.to then t.wants m.to.toNat m.key ⟨m.frm,0,m.serial,m.ver⟩
  else t.atOrigin m
end Go.Proofs.YtpdkojgepagbnaaGreatDoor.Tier
set_option maxRecDepth 100000
set_option maxHeartbeats 8000000
namespace Go.Proofs.YtpdkojgepagbnaaGreatDoor.Tier
theorem cac_set (t:St) (n m:Nat) (c:Cac):(t.setCac n c).cac m=if m=n∧n<t.caches.length then c else t.cac m:=by
  unfold St.setCac St.cac
  simp only [List.getD_eq_getElem?_getD,List.getElem?_set]
  by_cases h:n=m
  ·subst h
   by_cases hl:n<t.caches.length
   ·simp [hl]
   ·simp [hl]
  ·have h':¬ m=n:=fun e=>h e.symm
   simp [h,h']
section
variable {PE:Nat→Kept→Prop} {PF:Nat→Ftc→Prop} {PM:Mes→Prop} {PA:Ans→Prop}
end
end Go.Proofs.YtpdkojgepagbnaaGreatDoor.Tier
set_option maxRecDepth 100000
set_option maxHeartbeats 8000000
namespace Go.Proofs.YtpdkojgepagbnaaGreatDoor.Tier
structure Was where
  key:ByteArray
  ver:Int
  pres:Int
  val:ByteArray
  frm:Int
def Known (h:List Was) (k:ByteArray) (v p:Int) (x:ByteArray):Prop:=(v=0∧p=0∧x=empty)∨∃ r∈h,r.key=k∧r.ver=v∧r.pres=p∧r.val=x
def Late (h:List Was) (k:ByteArray) (v T:Int):Prop:=∀ r∈h,r.key=k→v<r.ver→T≤r.frm
structure G where
  tm:Prop
  h:List Was
  now:Int
  tau:Int→Int
  kid:Int→ByteArray
  S:Int
  c:Conf
  clk:Nat→Int
def WOK (g:G) (k:ByteArray) (w:Wtr):Prop:=(w.node<0→g.kid w.id=k)∧(¬ w.node<0→0<w.node∧w.node<g.c.parents.length∧w.serial≤g.S∧g.tau w.serial≤g.now)
def PE (g:G) (n:Nat) (e:Kept):Prop:=(0<n∧n<g.c.parents.length)∧Known g.h e.key e.ver e.pres e.val∧0≤e.base∧e.since≤g.clk n∧(g.tm→∃ T,T≤g.now∧Late g.h e.key e.ver (T - e.base)∧(1000000 - g.c.drift)*(g.now - T)≤1000000*(g.clk n - e.since))
def PF (g:G) (n:Nat) (f:Ftc):Prop:=(0<n∧n<g.c.parents.length)∧f.serial≤g.S∧f.sent≤g.clk n∧(g.tm→(1000000 - g.c.drift)*(g.now - g.tau f.serial)≤1000000*(g.clk n - f.sent))∧∀ w∈f.l,WOK g f.key w
def PM (g:G) (m:Mes):Prop:=m.serial≤g.S∧g.tau m.serial≤g.now∧0≤m.to∧m.to<g.c.parents.length∧(m.kind≠1→0<m.to)∧(m.kind=1→0<m.frm∧m.frm<g.c.parents.length)∧(m.kind=2→Known g.h m.key m.ver m.pres m.val) ∧
  (m.kind=2∨m.kind=3→0≤m.age∧(g.tm→∃ T,g.tau m.serial≤T∧T≤g.now∧Late g.h m.key m.ver (T - m.age)))∧(m.kind=1∨m.kind=2∨m.kind=3∨m.kind=4)
def PA (g:G) (a:Ans):Prop:=(a.kind=2∧a.ver=0∧a.pres=0∧a.val=empty∧a.age=0) ∨
  (a.kind=1∧Known g.h (g.kid a.id) a.ver a.pres a.val∧0≤a.age∧a.age≤g.c.budget∧(g.tm→Late g.h (g.kid a.id) a.ver (g.now - a.age)))
theorem clock_set (t:St) (n m:Nat) (c:Cac) (hc:c.clock=(t.cac n).clock):((t.setCac n c).cac m).clock=(t.cac m).clock:=by
  rw [cac_set]
  split
  ·next h=>rw [h.1];exact hc
  ·rfl
theorem length_set (t:St) (n:Nat) (c:Cac):(t.setCac n c).caches.length=t.caches.length:=by simp [St.setCac]
theorem find_mem {α:Type} {p:α→Bool} {l:List α} {x:α} (h:l.find? p=some x):x∈l∧p x=true:=⟨List.mem_of_find?_eq_some h,List.find?_some h⟩
theorem cac_uses {t:St} {n:Nat} {e:Kept} (hn:n<t.caches.length):(t.uses n e).cac n={ t.cac n with ents:=(e :: (t.cac n).ents.filter fun x=>decide (x.key≠e.key)).take t.c.entries.toNat }:=by
  unfold St.uses;rw [cac_set,if_pos ⟨rfl,hn⟩]
theorem entry_uses {t:St} {n:Nat} {e:Kept} (hn:n<t.caches.length) (hr:1≤t.c.entries):(t.uses n e).entry n e.key=some e:=by
  obtain ⟨m,hm⟩:∃ m,t.c.entries.toNat=m+1:=⟨t.c.entries.toNat - 1,by omega⟩
  unfold St.entry
  rw [cac_uses hn,hm]
  simp
theorem told_parts (t:St) (n:Nat) (e:Kept) (w:Wtr):(t.toldBy n e w).caches=(t.uses n e).caches∧(t.toldBy n e w).c=t.c:=by
  unfold St.toldBy
  split
  ·exact ⟨rfl,rfl⟩
  ·split <;> exact ⟨rfl,rfl⟩
theorem entry_told {t:St} {n:Nat} {e:Kept} (w:Wtr) (hn:n<t.caches.length) (hr:1≤t.c.entries):(t.toldBy n e w).entry n e.key=some e:=by
  have:=entry_uses (e:=e) hn hr
  unfold St.entry St.cac at *
  rw [(told_parts t n e w).1];exact this
theorem cac_over_ents (t:St) (n:Nat) (k:ByteArray):((t.over n k).cac n).ents=(t.cac n).ents:=by
  unfold St.over;rw [cac_set];split <;> rfl
theorem clock_over (t:St) (n m:Nat) (k:ByteArray):((t.over n k).cac m).clock=(t.cac m).clock:=clock_set t n m _ rfl
theorem item_changes_same (t:St) (x:Item):(t.changes x).item x.key=x:=by
  unfold St.changes St.item
  rw [List.find?_append]
  have:(t.items.filter fun y=>decide (y.key≠x.key)).find? (fun y=>decide (y.key=x.key))=none:=by
    rw [List.find?_eq_none]
    intro y hy
    have:=of_decide_eq_true (List.mem_filter.1 hy).2
    simpa using this
  rw [this]
  simp
theorem item_changes_other (t:St) (x:Item) (k:ByteArray) (hk:x.key≠k):(t.changes x).item k=t.item k:=by
  unfold St.changes St.item
  rw [List.find?_append]
  have h1:[x].find? (fun y=>decide (y.key=k))=none:=by simp [hk]
  have h2:(t.items.filter fun y=>decide (y.key≠x.key)).find? (fun y=>decide (y.key=k))=t.items.find? (fun y=>decide (y.key=k)):=by
    rw [List.find?_filter]
    congr 1
    funext y
    by_cases hy:y.key=k
    ·have:y.key≠x.key:=fun e=>hk (e ▸ hy)
     simp [hy,Ne.symm hk]
    ·simp [hy]
  rw [h1,h2]
  simp
end Go.Proofs.YtpdkojgepagbnaaGreatDoor.Tier
set_option maxRecDepth 100000
set_option maxHeartbeats 8000000
namespace Go.Proofs.YtpdkojgepagbnaaGreatDoor.Tier
def isC (id:Int) (w:Wtr):Bool:=decide (w.node<0) && decide (w.id=id)
def cl (id:Int) (l:List Wtr):Nat:=l.countP (isC id)
def cf (id:Int) (l:List Ftc):Nat:=(l.map fun f=>cl id f.l).sum
def cc (id:Int) (l:List Cac):Nat:=(l.map fun c=>cf id c.fts).sum
def ca (id:Int) (l:List Ans):Nat:=l.countP fun a=>decide (a.id=id)
def cnt (id:Int) (t:St):Nat:=cc id t.caches+ca id t.answers
def one (id:Int) (w:Wtr):Nat:=if isC id w then 1 else 0
def Uniq (l:List Ftc):Prop:=l.Pairwise fun a b=>a.key≠b.key
def wl (l:List Ftc):Nat:=(l.map fun f=>f.l.length).sum
theorem cac_over {t:St} {n:Nat} {k:ByteArray} (hn:n<t.caches.length):(t.over n k).cac n={ t.cac n with fts:=(t.cac n).fts.filter fun f=>decide (f.key≠k) }:=by
  unfold St.over;rw [cac_set,if_pos ⟨rfl,hn⟩]
end Go.Proofs.YtpdkojgepagbnaaGreatDoor.Tier
