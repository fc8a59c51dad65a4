/-
  What holds of a tier at all times: sizes, ranges, who may stand where. As plain data.
  An answer, a message: what holds of a tier at all times is kept, and nothing grows by more than five.
  All fetches of a cache are let go.
  All entries of a cache are taken away.
  A message is taken out of the net.
-/
import Derived.Test.YtpdkojgepagbnaaGreatDoorJ16
import Derived.Test.YtpdkojgepagbnaaGreatDoorJ14
import Derived.Test.YtpdkojgepagbnaaGreatDoorJ09
import Derived.Test.YtpdkojgepagbnaaGreatDoorJ13
namespace Go.Proofs.YtpdkojgepagbnaaGreatDoor
set_option maxRecDepth 100000
set_option maxHeartbeats 8000000
section
open Tier (Mes Ans Conf)
def WtOK (c:Conf) (x:Wt):Prop:=0≤x.child∧x.child<c.parents.length
structure MesOK (c:Conf) (m:Mes):Prop where
  key:m.key.size≤4
  to0:0≤m.to
  to1:m.to<c.parents.length
  toC:m.kind≠1→0<m.to
  frm:m.kind=1→0<m.frm∧m.frm<c.parents.length
  age0:0≤m.age
  age1:m.age≤1000000
  ver:m.kind≠1→0≤m.ver
  kinds:m.kind=1∨m.kind=2∨m.kind=3∨m.kind=4
structure PS.Sane (s:PS):Prop where
  drift:0≤s.c.drift∧s.c.drift≤500000
  clk:∀ n,0≤s.clk n∧s.clk n≤1099511627776
  budget:1≤s.c.budget∧s.c.budget≤1000000
  entries:1≤s.c.entries∧s.c.entries≤4
  waiters:1≤s.c.waiters∧s.c.waiters≤4
  len:2≤s.c.parents.length∧s.c.parents.length≤6
  up:∀ n:Nat,0<n→n<s.c.parents.length→0≤s.c.parents.getD n 0∧s.c.parents.getD n 0<s.c.parents.length
  ents:∀ p∈s.found,p.2.Fine (s.clk p.1.1)∧0≤p.2.ver∧p.1.1<s.c.parents.length∧p.1.2.size≤4
  fts:∀ p∈s.fts,(0<p.1.1∧p.1.1<s.c.parents.length)∧p.1.2.size≤4∧0<p.2.serial∧p.2.serial≤s.serial∧0≤p.2.sent∧p.2.sent≤s.clk p.1.1∧∀ x∈p.2.l,WtOK s.c x
  apart:s.fts.Pairwise (fun p q=>p.2.serial≠q.2.serial)
  keys:s.fts.Pairwise (fun p q=>p.1≠q.1)
  wait:∀ n,(waiting n s.fts:Int)≤s.c.waiters
  serial:0≤s.serial
  used:∀ n,((s.used n).length:Int)≤s.c.entries∧∀ k∈s.used n,k.size≤4
  net:∀ m∈s.net,MesOK s.c m
  recs:∀ p∈s.recs,0≤p.2.ver
structure PS.Few (s:PS) (b:Nat):Prop where
  found:s.found.length≤b
  fts:s.fts.length≤b
  serial:s.serial≤b
  net:s.net.length≤b
  answers:s.answers.length≤b
theorem PS.Few.mono {s:PS} {a b:Nat} (h:s.Few a) (hab:a≤b):s.Few b:=⟨Nat.le_trans h.found hab,Nat.le_trans h.fts hab,by have:=h.serial;omega,Nat.le_trans h.net hab,Nat.le_trans h.answers hab⟩
theorem waiting_mem {n:Nat}:∀ {l:List ((Nat × ByteArray) × Ft)} {p},p∈l→p.1.1=n→p.2.l.length≤waiting n l
  | [],_,h,_=>by cases h
  | q :: r,p,h,hn=>by
    unfold waiting
    simp only [List.map_cons,List.sum_cons]
    rcases List.mem_cons.1 h with h|h
    ·subst h;rw [if_pos hn];omega
    ·have:=waiting_mem h hn
     unfold waiting at this
     omega
theorem PS.Sane.wl {s:PS} (h:s.Sane) {p} (hp:p∈s.fts):p.2.l.length≤4:=by
  have h1:=waiting_mem hp rfl
  have h2:=h.wait p.1.1
  have h3:=h.waiters
  omega
theorem PS.Sane.fine {s:PS} (h:s.Sane) {b:Nat} (hb:s.Few b) (hl:b≤1000000000000):s.Fine:=by
  have h6:=h.len
  refine ⟨fun g=>⟨h.drift.1,h.drift.2,fun n=>(h.clk n).1,fun n=>(h.clk n).2⟩,fun p hp=>?_,fun p hp=>?_,h.apart,⟨Nat.le_trans hb.found hl,Nat.le_trans hb.fts hl⟩,⟨h.serial,by have:=hb.serial;omega,Nat.le_trans hb.net hl,Nat.le_trans hb.answers hl⟩⟩
  ·obtain ⟨a,_,b,c⟩:=h.ents p hp
   exact ⟨a,by omega,c⟩
  ·obtain ⟨a,b,c,d,e,f,_⟩:=h.fts p hp
   exact ⟨by omega,b,c,d,e,f,Nat.le_trans (h.wl hp) (by omega)⟩
theorem PS.Sane.talk {s s':PS} (h:s.Sane) (hc:s'.c=s.c) (hk:s'.clk=s.clk) (hf:s'.found=s.found) (hu:s'.used=s.used) (ht:s'.fts=s.fts) (hs:s'.serial=s.serial) (hr:s'.recs=s.recs) (hn:∀ m∈s'.net,MesOK s.c m):s'.Sane:=by
  obtain ⟨a1,a2,a3,a4,a5,a6,a7,a8,a9,b1,b2,b3,b4,b5,b6,b7⟩:=h
  refine ⟨by rw [hc];exact a1,by rw [hk];exact a2,by rw [hc];exact a3,by rw [hc];exact a4,by rw [hc];exact a5,by rw [hc];exact a6,by rw [hc];exact a7,by rw [hf,hk,hc];exact a8,by rw [ht,hk,hc,hs];exact a9,by rw [ht];exact b1,by rw [ht];exact b2,by rw [ht,hc];exact b3,by rw [hs];exact b4,by rw [hu,hc];exact b5,by rw [hc];exact hn,by rw [hr];exact b7⟩
theorem mem_snoc {α:Type} {l:List α} {x y:α} (h:y∈l ++ [x]):y∈l∨y=x:=by simpa using h
theorem PS.Sane.refuse {s:PS} (h:s.Sane) {n:Nat} {k:ByteArray} {x:Wt} (hk:k.size≤4) (hx:WtOK s.c x):(s.refuse n k x).Sane:=by
  unfold PS.refuse
  split
  ·exact h.talk rfl rfl rfl rfl rfl rfl rfl h.net
  ·next hc =>
   refine h.talk rfl rfl rfl rfl rfl rfl rfl (fun m hm=>?_)
   rcases mem_snoc hm with hm|rfl
   ·exact h.net m hm
   ·have:=hx.1
    exact ⟨hk,hx.1,hx.2,fun _=>by show 0<x.child;omega,fun e=>absurd (show (4:Int)=1 from e) (by decide),Int.le_refl _,by show (0:Int)≤1000000;decide,fun _=>Int.le_refl _,Or.inr (Or.inr (Or.inr rfl))⟩
theorem PS.Sane.tell {s:PS} (h:s.Sane) {n:Nat} {x:Wt} {e:See} (hk:e.key.size≤4) (hv:0≤e.ver) (ha:0≤e.age∧e.age≤1000000) (hx:WtOK s.c x):(s.tell n x e).Sane:=by
  unfold PS.tell
  split
  ·exact h.talk rfl rfl rfl rfl rfl rfl rfl h.net
  ·next hc =>
   have h0:=hx.1
   split
   ·refine h.talk rfl rfl rfl rfl rfl rfl rfl (fun m hm=>?_)
    rcases mem_snoc hm with hm|rfl
    ·exact h.net m hm
    ·exact ⟨hk,hx.1,hx.2,fun _=>by show 0<x.child;omega,fun e=>absurd (show (3:Int)=1 from e) (by decide),ha.1,ha.2,fun _=>hv,Or.inr (Or.inr (Or.inl rfl))⟩
   ·refine h.talk rfl rfl rfl rfl rfl rfl rfl (fun m hm=>?_)
    rcases mem_snoc hm with hm|rfl
    ·exact h.net m hm
    ·exact ⟨hk,hx.1,hx.2,fun _=>by show 0<x.child;omega,fun e=>absurd (show (2:Int)=1 from e) (by decide),ha.1,ha.2,fun _=>hv,Or.inr (Or.inl rfl)⟩
theorem useL_mem {k x:ByteArray} {l:List ByteArray} (h:x∈useL k l):x=k∨x∈l:=by
  unfold useL at h
  split at h
  ·exact Or.inr h
  ·rcases List.mem_cons.1 h with h|h
   ·exact Or.inl h
   ·rcases List.mem_append.1 h with h|h
    ·exact Or.inr (List.mem_of_mem_take h)
    ·exact Or.inr (List.mem_of_mem_drop h)
theorem PS.Sane.entsStep {s s':PS} (h:s.Sane) (hc:s'.c=s.c) (hk:s'.clk=s.clk) (ht:s'.fts=s.fts) (hs:s'.serial=s.serial) (hr:s'.recs=s.recs) (hn:s'.net=s.net) (he:∀ p∈s'.found,p.2.Fine (s.clk p.1.1)∧0≤p.2.ver∧p.1.1<s.c.parents.length∧p.1.2.size≤4) (hu:∀ n,((s'.used n).length:Int)≤s.c.entries∧∀ k∈s'.used n,k.size≤4):s'.Sane:=by
  obtain ⟨a1,a2,a3,a4,a5,a6,a7,a8,a9,b1,b2,b3,b4,b5,b6,b7⟩:=h
  refine ⟨by rw [hc];exact a1,by rw [hk];exact a2,by rw [hc];exact a3,by rw [hc];exact a4,by rw [hc];exact a5,by rw [hc];exact a6,by rw [hc];exact a7,by rw [hk,hc];exact he,by rw [ht,hk,hc,hs];exact a9,by rw [ht];exact b1,by rw [ht];exact b2,by rw [ht,hc];exact b3,by rw [hs];exact b4,by rw [hc];exact hu,by rw [hn,hc];exact b6,by rw [hr];exact b7⟩
theorem PS.Sane.use {s:PS} (h:s.Sane) {n:Nat} {k:ByteArray} (hk:k.size≤4):(s.use n k).Sane:=by
  refine h.entsStep rfl rfl rfl rfl rfl rfl h.ents (fun m=>?_)
  rw [PS.use_length]
  refine ⟨(h.used m).1,fun x hx=>?_⟩
  have hx:x∈if m=n then useL k (s.used n) else s.used m:=hx
  split at hx
  ·rcases useL_mem hx with e|e
   ·rw [e];exact hk
   ·exact (h.used n).2 x e
  ·exact (h.used m).2 x hx
theorem PS.Sane.put {s:PS} (h:s.Sane) {n:Nat} {k:ByteArray} {e:Ent} (hn:n<s.c.parents.length) (hk:k.size≤4) (he:e.Fine (s.clk n)) (hv:0≤e.ver):PS.Sane { s with found:=aput s.found (n,k) e }:=by
  refine h.entsStep rfl rfl rfl rfl rfl rfl (fun p hp=>?_) h.used
  rcases of_aput hp with e|e
  ·subst e;exact ⟨he,hv,hn,hk⟩
  ·exact h.ents p e
theorem PS.Sane.store {s:PS} (h:s.Sane) {n:Nat} {k:ByteArray} {e:Ent} (hn:n<s.c.parents.length) (hk:k.size≤4) (he:e.Fine (s.clk n)) (hv:0≤e.ver):(s.store n k e).Sane:=by
  unfold PS.store
  split
  ·exact (h.put hn hk he hv).use hk
  ·have h1:((s.makeRoom n).keep n k).Sane∧((s.makeRoom n).keep n k).c=s.c∧((s.makeRoom n).keep n k).clk=s.clk:=by
     have hu:=h.used n
     unfold PS.makeRoom
     split
     ·next hl =>
      refine ⟨h.entsStep rfl rfl rfl rfl rfl rfl h.ents (fun m=>?_),rfl,rfl⟩
      show (((if m=n then s.used n ++ [k] else s.used m).length:Nat):Int)≤_∧∀ x∈(if m=n then s.used n ++ [k] else s.used m),x.size≤4
      split
      ·refine ⟨by simp;omega,fun x hx=>?_⟩
       rcases mem_snoc hx with hx|rfl
       ·exact hu.2 x hx
       ·exact hk
      ·exact h.used m
     ·refine ⟨h.entsStep rfl rfl rfl rfl rfl rfl (fun p hp=>h.ents p ((adel_sub _ _).subset hp)) (fun m=>?_),rfl,rfl⟩
      show (((if m=n then (if n=n then (s.used n).dropLast else s.used n) ++ [k] else (if m=n then (s.used n).dropLast else s.used m)).length:Nat):Int)≤_∧∀ x∈(if m=n then (if n=n then (s.used n).dropLast else s.used n) ++ [k] else (if m=n then (s.used n).dropLast else s.used m)),x.size≤4
      split
      ·rw [if_pos rfl]
       have h4:=h.entries.1
       refine ⟨by simp;omega,fun x hx=>?_⟩
       rcases mem_snoc hx with hx|rfl
       ·exact hu.2 x (List.dropLast_subset _ hx)
       ·exact hk
      ·exact h.used m
   have h2:PS.Sane { (s.makeRoom n).keep n k with found:=aput ((s.makeRoom n).keep n k).found (n,k) e }:=h1.1.put (by rw [h1.2.1];exact hn) hk (by rw [h1.2.2];exact he) hv
   exact h2.use hk
theorem waiting_perm {n:Nat} {l l':List ((Nat × ByteArray) × Ft)} (h:l.Perm l'):waiting n l=waiting n l':=(h.map _).sum_nat
theorem adel_apart {l:List ((Nat × ByteArray) × Ft)} (h:l.Pairwise (fun p q=>p.2.serial≠q.2.serial)) (k):(adel l k).Pairwise (fun p q=>p.2.serial≠q.2.serial):=h.sublist (adel_sub _ _)
theorem waiting_adel (n m:Nat) (k:ByteArray):∀ (l:List ((Nat × ByteArray) × Ft)) (f:Ft),aget l (n,k)=some f→waiting m (adel l (n,k))+(if m=n then f.l.length else 0)=waiting m l
  | [],f,h=>by rw [aget_nil] at h;cases h
  | q :: r,f,h=>by
    rw [aget_cons] at h
    unfold adel
    split
    ·next e =>
     rw [if_pos e] at h
     cases h
     unfold waiting
     simp only [List.map_cons,List.sum_cons,e]
     by_cases hm:n=m
     ·subst hm;simp;omega
     ·rw [if_neg hm,if_neg (Ne.symm hm)];omega
    ·next e =>
     rw [if_neg e] at h
     have:=waiting_adel n m k r f h
     unfold waiting at *
     simp only [List.map_cons,List.sum_cons]
     omega
theorem waiting_sub {m:Nat} {l l':List ((Nat × ByteArray) × Ft)} (h:l'.Sublist l):waiting m l'≤waiting m l:=by
  induction h with
  | slnil=>exact Nat.le_refl _
  | cons a _ ih=>unfold waiting at *;simp only [List.map_cons,List.sum_cons];omega
  | cons_cons a _ ih=>unfold waiting at *;simp only [List.map_cons,List.sum_cons];omega
theorem PS.Sane.ftsStep {s:PS} (h:s.Sane) {F:List ((Nat × ByteArray) × Ft)} {S:Int} {N:List Mes} (hS:0≤S) (hF:∀ p∈F,(0<p.1.1∧p.1.1<s.c.parents.length)∧p.1.2.size≤4∧0<p.2.serial∧p.2.serial≤S∧0≤p.2.sent∧p.2.sent≤s.clk p.1.1∧∀ x∈p.2.l,WtOK s.c x) (ha:F.Pairwise (fun p q=>p.2.serial≠q.2.serial)) (hk:F.Pairwise (fun p q=>p.1≠q.1)) (hw:∀ n,(waiting n F:Int)≤s.c.waiters) (hn:∀ m∈N,MesOK s.c m):PS.Sane { s with fts:=F,serial:=S,net:=N } :=
  ⟨h.drift,h.clk,h.budget,h.entries,h.waiters,h.len,h.up,h.ents,hF,ha,hk,hw,hS,h.used,hn,h.recs⟩
theorem PS.Sane.over {s:PS} (h:s.Sane) (n:Nat) (k:ByteArray):(s.over n k).Sane :=
  h.ftsStep h.serial (fun p hp=>h.fts p ((adel_sub _ _).subset hp)) (adel_apart h.apart _) (h.keys.sublist (adel_sub _ _)) (fun m=>Int.le_trans (Int.ofNat_le.2 (waiting_sub (adel_sub _ _))) (h.wait m)) h.net
theorem aput_keys0 {κ ε:Type} [DecidableEq κ] {k:κ} {e:ε}:∀ {l:List (κ × ε)},l.Pairwise (fun p q=>p.1≠q.1)→(aput l k e).Pairwise (fun p q=>p.1≠q.1)
  | [],_=>List.pairwise_singleton _ _
  | q :: r,h=>by
    obtain ⟨h1,h2⟩:=List.pairwise_cons.1 h
    unfold aput
    split
    ·next hq=>exact List.pairwise_cons.2 ⟨fun p hp=>hq ▸ h1 p hp,h2⟩
    ·next hq =>
     refine List.pairwise_cons.2 ⟨fun p hp=>?_,aput_keys0 h2⟩
     rcases of_aput hp with e|e
     ·subst e;exact hq
     ·exact h1 p e
theorem aput_perm0 {κ ε:Type} [DecidableEq κ] (k:κ) (e:ε):∀ (l:List (κ × ε)),(aput l k e).Perm (adel l k ++ [(k,e)])
  | []=>List.Perm.refl _
  | q :: r=>by
    unfold aput adel
    split
    ·exact (List.perm_append_comm (l₁:=[(k,e)]) (l₂:=r))
    ·exact (aput_perm0 k e r).cons q
theorem waiting_put (n m:Nat) (k:ByteArray) (f:Ft) (l:List ((Nat × ByteArray) × Ft)):waiting m (aput l (n,k) f)=waiting m (adel l (n,k))+(if m=n then f.l.length else 0):=by
  rw [waiting_perm (aput_perm0 (n,k) f l)]
  unfold waiting
  rw [List.map_append,List.sum_append]
  by_cases hm:n=m
  ·subst hm;simp
  ·simp [hm,Ne.symm hm]
theorem PS.Sane.fetch {s:PS} (h:s.Sane) {n:Nat} {k:ByteArray} {tg:Int} {l:List Wt} {v:Value} (hn:0<n) (hl:n<s.c.parents.length) (hk:k.size≤4) (hw:∀ x∈l,WtOK s.c x) (hc:(waiting n (adel s.fts (n,k)):Int)+l.length≤s.c.waiters):(s.fetch n k tg l v).Sane:=by
  have hup:=h.up n hn hl
  refine h.ftsStep (by have:=h.serial;omega) (fun p hp=>?_) (aput_apart Ft.serial h.apart (fun p hp=>?_)) (aput_keys0 h.keys) (fun m=>?_) (fun m hm=>?_)
  ·rcases of_aput hp with e|e
   ·subst e
    exact ⟨⟨hn,hl⟩,hk,by have:=h.serial;show 0<s.serial+1;omega,Int.le_refl _,(h.clk n).1,Int.le_refl _,hw⟩
   ·obtain ⟨a,b,c,d,r⟩:=h.fts p e
    exact ⟨a,b,c,by omega,r⟩
  ·have:=(h.fts p hp).2.2.2.1
   show p.2.serial≠s.serial+1
   omega
  ·rw [waiting_put]
   split
   ·next e=>subst e;push_cast;exact hc
   ·have:=waiting_sub (m:=m) (adel_sub s.fts (n,k))
    have:=h.wait m
    omega
  ·rcases mem_snoc hm with hm|rfl
   ·exact h.net m hm
   ·exact ⟨hk,hup.1,hup.2,fun e=>absurd rfl e,fun _=>⟨by show (0:Int)<n;omega,by show (n:Int)<_;omega⟩,Int.le_refl _,by show (0:Int)≤1000000;decide,fun e=>absurd rfl e,Or.inl rfl⟩
theorem PS.Sane.join {s:PS} (h:s.Sane) {n:Nat} {k:ByteArray} {f:Ft} {x:Wt} {v:Value} (hf:aget s.fts (n,k)=some f) (hx:WtOK s.c x) (hc:(waiting n s.fts:Int)<s.c.waiters):PS.Sane { s with fts:=aput s.fts (n,k) ⟨f.serial,f.sent,f.l ++ [x],v⟩ }:=by
  refine h.ftsStep h.serial (fun p hp=>?_) ?_ (aput_keys0 h.keys) (fun m=>?_) h.net
  ·rcases of_aput hp with e|e
   ·subst e
    obtain ⟨a,b,c,d,e,g,i⟩:=h.fts _ (aget_mem hf)
    refine ⟨a,b,c,d,e,g,fun y hy=>?_⟩
    rcases mem_snoc hy with hy|rfl
    ·exact i y hy
    ·exact hx
   ·exact h.fts p e
  ·have e:=aput_map Ft.serial (o:=f) (e:=(⟨f.serial,f.sent,f.l ++ [x],v⟩:Ft)) rfl hf
   have h4':(s.fts.map fun p=>p.2.serial).Pairwise (·≠·):=List.pairwise_map.2 h.apart
   rw [← e] at h4'
   exact List.pairwise_map.1 h4'
  ·rw [waiting_put]
   have h1:=waiting_adel n m k s.fts f hf
   have h2:=h.wait m
   split
   ·next e=>subst e;rw [if_pos rfl] at h1;simp;omega
   ·next e=>rw [if_neg e] at h1;omega
theorem PS.Sane.wait' {s:PS} (h:s.Sane) {n:Nat} {k:ByteArray} {x:Wt} {v:Value} (hn:0<n) (hl:n<s.c.parents.length) (hk:k.size≤4) (hx:WtOK s.c x):(s.wait n k x v).Sane:=by
  unfold PS.wait
  split
  ·exact h.refuse hk hx
  ·next hq =>
   split
   ·refine h.fetch hn hl hk (fun y hy=>by rw [List.mem_singleton.1 hy];exact hx) ?_
    have:=waiting_sub (m:=n) (adel_sub s.fts (n,k))
    simp
    omega
   ·next f hf=>exact h.join hf hx (by omega)
theorem elap_le' {s:PS} (h:s.Sane) {n:Nat} {c:Int} (h0:0≤c) (h1:c≤s.clk n):0≤elap s.c.drift (s.clk n - c)∧elap s.c.drift (s.clk n - c)≤2199023255554:=by
  have:=elap_le (drift:=s.c.drift) (d:=s.clk n - c) (by omega) (by have:=(h.clk n).2;omega) h.drift.1 h.drift.2
  omega
theorem age_nonneg {s:PS} (h:s.Sane) {n:Nat} {e:Ent} (he:e.Fine (s.clk n)):0≤ageAt s.c.drift (s.clk n) e:=by
  have:=(elap_le' h he.s0 he.s1).1
  unfold ageAt
  have:=he.b0
  omega
theorem PS.Sane.asked {s:PS} (h:s.Sane) {n:Nat} {k:ByteArray} {x:Wt} {v:Value} (hn:0<n) (hl:n<s.c.parents.length) (hk:k.size≤4) (hx:WtOK s.c x):(s.asked n k x v).Sane:=by
  unfold PS.asked
  split
  ·exact h.wait' hn hl hk hx
  ·next e he =>
   obtain ⟨a,b,_⟩:=h.ents _ (aget_mem he)
   split
   ·next hb=>exact (h.use hk).tell hk b ⟨age_nonneg h a,Int.le_trans hb h.budget.2⟩ hx
   ·exact h.wait' hn hl hk hx
theorem PS.Sane.refuseL {n:Nat} {k:ByteArray} (hk:k.size≤4):∀ (l:List Wt) {s:PS},s.Sane→(∀ x∈l,WtOK s.c x)→(s.refuseL n k l).Sane
  | [],_,h,_=>h
  | x :: l,s,h,hx=>by
    have hc:(s.refuse n k x).c=s.c:=by unfold PS.refuse;split <;> rfl
    have:=PS.Sane.refuseL (n:=n) hk l (h.refuse (n:=n) hk (hx x (by simp))) (fun y hy=>by rw [hc];exact hx y (by simp [hy]))
    exact this
theorem PS.Sane.tellL {n:Nat} {e:See} (hk:e.key.size≤4) (hv:0≤e.ver) (ha:0≤e.age∧e.age≤1000000):∀ (l:List Wt) {s:PS},s.Sane→(∀ x∈l,WtOK s.c x)→(s.tellL n e l).Sane
  | [],_,h,_=>h
  | x :: l,s,h,hx=>by
    have hc:(s.tell n x e).c=s.c:=by unfold PS.tell;split <;> first|rfl|(split <;> rfl)
    have:=PS.Sane.tellL (n:=n) hk hv ha l (h.tell (n:=n) hk hv ha (hx x (by simp))) (fun y hy=>by rw [hc];exact hx y (by simp [hy]))
    exact this
structure PS.Keeps (s s':PS):Prop where
  c:s'.c=s.c
  recs:s'.recs=s.recs
  clk:s'.clk=s.clk
  fts:s'.fts=s.fts
  serial:s'.serial=s.serial
  net:s'.net=s.net
  answers:s'.answers=s.answers
theorem PS.Keeps.refl (s:PS):s.Keeps s:=⟨rfl,rfl,rfl,rfl,rfl,rfl,rfl⟩
theorem PS.keeps_store (s:PS) (n:Nat) (k:ByteArray) (e:Ent):s.Keeps (s.store n k e):=by
  unfold PS.store
  split
  ·exact ⟨rfl,rfl,rfl,rfl,rfl,rfl,rfl⟩
  ·unfold PS.makeRoom
   split <;> exact ⟨rfl,rfl,rfl,rfl,rfl,rfl,rfl⟩
theorem PS.entry_store (s:PS) (n:Nat) (k:ByteArray) (e:Ent):(s.store n k e).entry n k=some e:=by
  unfold PS.store
  split
  ·show aget (aput s.found (n,k) e) (n,k)=_
   rw [aget_aput,if_pos rfl]
  ·show aget (aput (s.makeRoom n).found (n,k) e) (n,k)=_
   rw [aget_aput,if_pos rfl]
theorem PS.found_store (s:PS) (n:Nat) (k:ByteArray) (e:Ent):(s.store n k e).found.length≤s.found.length+1:=by
  unfold PS.store
  split
  ·exact aput_length _ _ _
  ·show (aput (s.makeRoom n).found (n,k) e).length≤_
   have h1:=aput_length (s.makeRoom n).found (n,k) e
   have h2:(s.makeRoom n).found.length≤s.found.length:=by
     unfold PS.makeRoom
     split
     ·exact Nat.le_refl _
     ·exact adel_length _ _
   omega
theorem PS.keeps_learn (s:PS) (n:Nat) (m:Mes) (b:Int):s.Keeps (s.learn n m b):=by
  unfold PS.learn
  split
  ·exact s.keeps_store _ _ _
  ·split
   ·exact s.keeps_store _ _ _
   ·split
    ·exact s.keeps_store _ _ _
    ·exact PS.Keeps.refl s
theorem PS.found_learn (s:PS) (n:Nat) (m:Mes) (b:Int):(s.learn n m b).found.length≤s.found.length+1:=by
  unfold PS.learn
  split
  ·exact s.found_store _ _ _
  ·split
   ·exact s.found_store _ _ _
   ·split
    ·exact s.found_store _ _ _
    ·omega
theorem PS.entry_learn (s:PS) (n:Nat) (m:Mes) (b:Int):∃ e,(s.learn n m b).entry n m.key=some e:=by
  unfold PS.learn
  cases he:s.entry n m.key with
  | none=>exact ⟨_,s.entry_store _ _ _⟩
  | some e =>
    dsimp only
    split
    ·exact ⟨_,s.entry_store _ _ _⟩
    ·split
     ·exact ⟨_,s.entry_store _ _ _⟩
     ·exact ⟨e,he⟩
theorem PS.Sane.learn {s:PS} (h:s.Sane) {n:Nat} {m:Mes} {b:Int} (hn:n<s.c.parents.length) (hk:m.key.size≤4) (hv:0≤m.ver) (hb:0≤b∧b≤4398046511104):(s.learn n m b).Sane:=by
  have hck:=h.clk n
  have h1:∀ (v p:Int) (x:ByteArray),Ent.Fine ⟨v,p,x,b,s.clk n⟩ (s.clk n):=fun v p x=>⟨hb.1,hb.2,hck.1,Int.le_refl _,hck.2⟩
  unfold PS.learn
  split
  ·exact h.store hn hk (h1 _ _ _) hv
  ·next e he =>
   have hev:=(h.ents _ (aget_mem he)).2.1
   split
   ·exact h.store hn hk (h1 _ _ _) hv
   ·split
    ·exact h.store hn hk (h1 _ _ _) hev
    ·exact h
theorem refuseL_facts (n:Nat) (k:ByteArray):∀ (l:List Wt) (s:PS),(s.refuseL n k l).found=s.found∧(s.refuseL n k l).fts=s.fts∧(s.refuseL n k l).serial=s.serial
  | [],s=>⟨rfl,rfl,rfl⟩
  | x :: r,s=>by
    have h1:(s.refuse n k x).found=s.found∧(s.refuse n k x).fts=s.fts∧(s.refuse n k x).serial=s.serial:=by unfold PS.refuse;split <;> exact ⟨rfl,rfl,rfl⟩
    have h2:=refuseL_facts n k r (s.refuse n k x)
    exact ⟨h2.1.trans h1.1,h2.2.1.trans h1.2.1,h2.2.2.trans h1.2.2⟩
theorem tellL_facts (n:Nat) (e:See):∀ (l:List Wt) (s:PS),(s.tellL n e l).found=s.found∧(s.tellL n e l).fts=s.fts∧(s.tellL n e l).serial=s.serial∧(s.tellL n e l).net.length≤s.net.length+l.length∧(s.tellL n e l).answers.length≤s.answers.length+l.length
  | [],s=>⟨rfl,rfl,rfl,by simp [PS.tellL],by simp [PS.tellL]⟩
  | x :: r,s=>by
    have h1:(s.tell n x e).found=s.found∧(s.tell n x e).fts=s.fts∧(s.tell n x e).serial=s.serial∧(s.tell n x e).net.length≤s.net.length+1∧(s.tell n x e).answers.length≤s.answers.length+1:=by
      unfold PS.tell
      split
      ·simp
      ·split <;> simp
    have h2:=tellL_facts n e r (s.tell n x e)
    refine ⟨h2.1.trans h1.1,h2.2.1.trans h1.2.1,h2.2.2.1.trans h1.2.2.1,?_,?_⟩
    ·have:=h2.2.2.2.1;have:=h1.2.2.2.1;simp only [PS.tellL,List.foldl_cons,List.length_cons] at *;omega
    ·have:=h2.2.2.2.2;have:=h1.2.2.2.2;simp only [PS.tellL,List.foldl_cons,List.length_cons] at *;omega
theorem PS.Few.refuseL {s:PS} {b:Nat} (h:s.Few b) (n:Nat) (k:ByteArray) (l:List Wt):(s.refuseL n k l).Few (b+l.length):=by
  obtain ⟨h1,h2,h3⟩:=refuseL_facts n k l s
  obtain ⟨h4,h5⟩:=PS.refuseL_net n k l s
  obtain ⟨a1,a2,a3,a4,a5⟩:=h
  exact ⟨by rw [h1];omega,by rw [h2];omega,by rw [h3];omega,by omega,by omega⟩
theorem PS.Few.tellL {s:PS} {b:Nat} (h:s.Few b) (n:Nat) (e:See) (l:List Wt):(s.tellL n e l).Few (b+l.length):=by
  obtain ⟨h1,h2,h3,h4,h5⟩:=tellL_facts n e l s
  obtain ⟨a1,a2,a3,a4,a5⟩:=h
  exact ⟨by rw [h1];omega,by rw [h2];omega,by rw [h3];omega,by omega,by omega⟩
theorem PS.Few.over {s:PS} {b:Nat} (h:s.Few b) (n:Nat) (k:ByteArray):(s.over n k).Few b:=⟨h.found,Nat.le_trans (adel_length _ _) h.fts,h.serial,h.net,h.answers⟩
theorem PS.Few.use {s:PS} {b:Nat} (h:s.Few b) (n:Nat) (k:ByteArray):(s.use n k).Few b:=⟨h.found,h.fts,h.serial,h.net,h.answers⟩
theorem PS.Few.refuse {s:PS} {b:Nat} (h:s.Few b) (n:Nat) (k:ByteArray) (x:Wt):(s.refuse n k x).Few (b+1):=h.refuseL n k [x]
theorem PS.Few.tell {s:PS} {b:Nat} (h:s.Few b) (n:Nat) (x:Wt) (e:See):(s.tell n x e).Few (b+1):=h.tellL n e [x]
theorem PS.Few.fetch {s:PS} {b:Nat} (h:s.Few b) (n:Nat) (k:ByteArray) (tg:Int) (l:List Wt) (v:Value):(s.fetch n k tg l v).Few (b+1):=by
  obtain ⟨a1,a2,a3,a4,a5⟩:=h
  refine ⟨Nat.le_trans a1 (by omega),Nat.le_trans (aput_length _ _ _) (by omega),?_,?_,Nat.le_trans a5 (by omega)⟩
  ·show s.serial+1≤_;omega
  ·show (s.net ++ [_]).length≤_;simp;omega
theorem PS.Few.learn {s:PS} {b:Nat} (h:s.Few b) (n:Nat) (m:Mes) (c:Int):(s.learn n m c).Few (b+1):=by
  have hk:=s.keeps_learn n m c
  have hf:=s.found_learn n m c
  obtain ⟨a1,a2,a3,a4,a5⟩:=h
  exact ⟨by omega,by rw [hk.fts];omega,by rw [hk.serial];omega,by rw [hk.net];omega,by rw [hk.answers];omega⟩
theorem PS.Few.wait {s:PS} {b:Nat} (h:s.Few b) (n:Nat) (k:ByteArray) (x:Wt) (v:Value):(s.wait n k x v).Few (b+1):=by
  unfold PS.wait
  split
  ·exact h.refuse n k x
  ·split
   ·exact h.fetch _ _ _ _ _
   ·next f hf=>exact ⟨Nat.le_trans h.found (by omega),by rw [aput_len_old hf];exact Nat.le_trans h.fts (by omega),by have:=h.serial;show s.serial≤_;omega,Nat.le_trans h.net (by omega),Nat.le_trans h.answers (by omega)⟩
theorem PS.Few.asked {s:PS} {b:Nat} (h:s.Few b) (n:Nat) (k:ByteArray) (x:Wt) (v:Value):(s.asked n k x v).Few (b+1):=by
  unfold PS.asked
  split
  ·exact h.wait n k x v
  ·split
   ·exact (h.use n k).tell _ _ _
   ·exact h.wait n k x v
theorem PS.Few.finish {s:PS} {b:Nat} (h:s.Few b) (n:Nat) (k:ByteArray) (e:Ent) (l:List Wt):(s.finish n k e l).Few (b+l.length):=by
  unfold PS.finish
  split
  ·exact ((h.use n k).over n k).tellL _ _ _
  ·exact ((h.use n k).over n k).refuseL _ _ _
theorem PS.Sane.finish {s:PS} (h:s.Sane) {n:Nat} {k:ByteArray} {e:Ent} {l:List Wt} (he:s.entry n k=some e) (hk:k.size≤4) (hl:∀ x∈l,WtOK s.c x):(s.finish n k e l).Sane:=by
  obtain ⟨a,b,_⟩:=h.ents _ (aget_mem he)
  have h1:=((h.use (n:=n) hk).over n k)
  unfold PS.finish
  split
  ·next hb=>exact PS.Sane.tellL (e:=seen k e (ageAt s.c.drift (s.clk n) e)) hk b ⟨age_nonneg h a,Int.le_trans hb h.budget.2⟩ l h1 hl
  ·exact PS.Sane.refuseL hk l h1 hl
theorem base_ok {s:PS} (h:s.Sane) {n:Nat} {k:ByteArray} {f:Ft} {a:Int} (hf:aget s.fts (n,k)=some f) (ha:0≤a∧a≤1000000):0≤a+elap s.c.drift (s.clk n - f.sent)∧a+elap s.c.drift (s.clk n - f.sent)≤4398046511104:=by
  obtain ⟨_,_,_,_,h1,h2,_⟩:=h.fts _ (aget_mem hf)
  have:=elap_le' h h1 h2
  dsimp only at this
  omega
theorem PS.Sane.answered {s:PS} (h:s.Sane) {n:Nat} {m:Mes} (hn:0<n) (hl:n<s.c.parents.length) (hm:MesOK s.c m) (hk:m.kind≠1):(s.answered n m).Sane:=by
  unfold PS.answered
  split
  ·exact h
  ·next f hf =>
   have hx:=(h.fts _ (aget_mem hf)).2.2.2.2.2.2
   split
   ·exact h
   ·split
    ·exact PS.Sane.refuseL hm.key f.l (h.over n m.key) hx
    ·split
     ·refine h.fetch hn hl hm.key hx ?_
      have h1:=waiting_adel n n m.key s.fts f hf
      rw [if_pos rfl] at h1
      have:=h.wait n
      omega
     ·dsimp only
      have hb:=base_ok h hf ⟨hm.age0,hm.age1⟩
      have h2:=h.learn (m:=m) hl hm.key (hm.ver hk) hb
      obtain ⟨e,he⟩:=s.entry_learn n m (m.age+elap s.c.drift (s.clk n - f.sent))
      rw [he]
      refine h2.finish he hm.key (fun x hx'=>?_)
      rw [(s.keeps_learn n m _).c]
      exact hx x hx'
theorem PS.Few.answered {s:PS} {b:Nat} (h:s.Few b) (hs:s.Sane) (n:Nat) (m:Mes):(s.answered n m).Few (b+5):=by
  unfold PS.answered
  split
  ·exact h.mono (by omega)
  ·next f hf =>
   have h4:=hs.wl (aget_mem hf)
   dsimp only at h4
   split
   ·exact h.mono (by omega)
   ·split
    ·exact ((h.over n m.key).refuseL n m.key f.l).mono (by omega)
    ·split
     ·exact (h.fetch _ _ _ _ _).mono (by omega)
     ·exact ((h.learn n m _).finish n m.key _ f.l).mono (by omega)
theorem rec_ver {s:PS} (h:s.Sane) (k:ByteArray):0≤(s.record k).ver:=by
  unfold PS.record
  cases hg:aget s.recs k with
  | none=>exact Int.le_refl _
  | some r=>exact h.recs _ (aget_mem hg)
theorem PS.Sane.arrive {s:PS} (h:s.Sane) {m:Mes} {v:Value} (hm:MesOK s.c m):(s.arrive m v).Sane:=by
  have h0:=hm.to0
  have h1:=hm.to1
  unfold PS.arrive
  split
  ·next hk=>exact h.answered (by have:=hm.toC hk;omega) (by omega) hm hk
  ·next hk =>
   have hk:m.kind=1:=Classical.not_not.1 hk
   obtain ⟨f0,f1⟩:=hm.frm hk
   split
   ·exact h.tell hm.key (rec_ver h m.key) ⟨Int.le_refl _,by show (0:Int)≤1000000;decide⟩ ⟨Int.le_of_lt f0,f1⟩
   ·next ht=>exact h.asked (by omega) (by omega) hm.key ⟨Int.le_of_lt f0,f1⟩
theorem PS.Few.arrive {s:PS} {b:Nat} (h:s.Few b) (hs:s.Sane) (m:Mes) (v:Value):(s.arrive m v).Few (b+5):=by
  unfold PS.arrive
  split
  ·exact h.answered hs _ _
  ·split
   ·exact (h.tell _ _ _).mono (by omega)
   ·exact (h.asked _ _ _ _).mono (by omega)
end
section
open Go.RowKit
open Tier (Mes Ans Conf)
open Go.Maps
attribute [local go_sem ↓] Go.wp_at_zero Go.wp_at_succ
theorem MapIs.reads {w:World} {b m:Nat} {D:DataW Value} {l:List ((Nat × ByteArray) × Ft)} (h:MapIs Tryz.prog 124 w b (rawL placeV ftV l)) (hs:∀ p∈l,∃ a c,p.2.v= .slice a p.2.l.length c) (hk:∀ p∈l,p.1.1<1000∧p.1.2.size≤100) (ho:w.ownsMap Tryz.prog 124 ftR b m D) :
    ∀ x kl c,keyOf Tryz.prog 124 (mkP x)=some kl→(∀ zd,D.atKey kl zd= .held (mkF c))→∃ p∈l,placeV p.1=mkP x∧ftV p.2=mkF c∧kl=klitP Tryz.prog p.1:=by
 obtain ⟨es,clock,hb,F,hl⟩:=h.is
 obtain ⟨es',clock',hb',F',_,rfl⟩:=ho
 rw [hb] at hb'
 cases hb'
 have hval:∀ x∈es.toList,∃ p∈l,x.key=placeV p.1∧x.val=ftV p.2:=by
   intro x hx
   have:pairV x∈rawL placeV ftV l:=by rw [← hl];exact List.mem_map.2 ⟨x,hx,rfl⟩
   obtain ⟨p,hp,e⟩:=List.mem_map.1 this
   exact ⟨p,hp,(congrArg Prod.fst e).symm,(congrArg Prod.snd e).symm⟩
 have hread:∀ x∈es.toList,ftR x.val=some (.held x.val,[]):=by
   intro x hx
   obtain ⟨p,hp,_,e⟩:=hval x hx
   obtain ⟨a,c,hv⟩:=hs p hp
   rw [e,ftV,hv]
   rfl
 intro x kl c hkx hat
 rcases Maps.fit_look false placeKeyed Tryz.underlying74 (zeroFt w) hb F' hkx with ⟨_,_,h3⟩|⟨e0,y,hm0,hk0,_,hy,h3,_⟩
 ·have:=(hat .nil).symm.trans (h3 .nil)
  cases this
 ·obtain ⟨p,hp,e1,e2⟩:=hval e0 hm0
  rw [hread e0 hm0] at hy
  cases hy
  have:=(hat .nil).symm.trans (h3 .nil)
  injection this with this
  refine ⟨p,hp,by rw [← e1,hk0],by rw [← e2];exact this.symm,?_⟩
  have hk':=klit_key (hk p hp).1 (hk p hp).2
  rw [← e1,hk0,hkx] at hk'
  exact Option.some.inj hk'
def keepP (P:Program) (n:Nat) (left:Lit→Bool) (p:(Nat × ByteArray) × Ft):Bool:=decide (p.1.1≠n) || left (klitP P p.1)
theorem adel_filter {κ ε:Type} [DecidableEq κ] (k:κ):∀ {l:List (κ × ε)},l.Pairwise (fun p q=>p.1≠q.1)→adel l k=l.filter (fun p=>decide (p.1≠k))
  | [],_=>rfl
  | q :: r,h=>by
    obtain ⟨h1,h2⟩:=List.pairwise_cons.1 h
    unfold adel
    split
    ·next e =>
     rw [List.filter_cons_of_neg (by simpa using e)]
     symm
     exact List.filter_eq_self.2 (fun p hp=>decide_eq_true (fun e'=>h1 p hp (e.trans e'.symm)))
    ·next e=>rw [List.filter_cons_of_pos (by simpa using e),adel_filter k h2]
theorem other_key {l:List ((Nat × ByteArray) × Ft)} (hk:∀ p∈l,p.1.1<1000∧p.1.2.size≤100) {p p0} (hp:p∈l) (hp0:p0∈l):(klitP Tryz.prog p.1).sameKey (klitP Tryz.prog p0.1)=decide (p.1=p0.1):=by
  by_cases e:p.1=p0.1
  ·rw [e,decide_eq_true rfl]
   exact WideAt.sameKey_self (placeKeyed.key (klit_key (hk p0 hp0).1 (hk p0 hp0).2))
  ·rw [decide_eq_false e]
   cases hs:(klitP Tryz.prog p.1).sameKey (klitP Tryz.prog p0.1)
   ·rfl
   ·have e':=WideAt.sameKey_eq hs
    have k1:=klit_key (hk p hp).1 (hk p hp).2
    have k2:=klit_key (hk p0 hp0).1 (hk p0 hp0).2
    rw [e'] at k1
    exact absurd (placeV_inj _ _ (placeKeyed.inj k1 k2)) e
theorem keep_del {n:Nat} {left:Lit→Bool} {l:List ((Nat × ByteArray) × Ft)} (hn:l.Pairwise (fun p q=>p.1≠q.1)) (hk:∀ p∈l,p.1.1<1000∧p.1.2.size≤100) {p0} (hp:p0∈l) (h0:p0.1.1=n) :
    adel (l.filter (keepP Tryz.prog n left)) p0.1=l.filter (keepP Tryz.prog n (fun z=>(left z && !z.sameKey (klitP Tryz.prog p0.1)) && !z.sameKey (klitP Tryz.prog p0.1))):=by
 rw [adel_filter _ (hn.filter _),List.filter_filter]
 refine List.filter_congr (fun p hp'=>?_)
 unfold keepP
 dsimp only
 rw [other_key hk hp' hp]
 by_cases e:p.1=p0.1
 ·simp [e,h0]
 ·simp [e]
theorem keep_other {n:Nat} {left:Lit→Bool} {l:List ((Nat × ByteArray) × Ft)} (hk:∀ p∈l,p.1.1<1000∧p.1.2.size≤100) {p0} (hp:p0∈l) (h0:p0.1.1≠n) :
    l.filter (keepP Tryz.prog n left)=l.filter (keepP Tryz.prog n (fun z=>left z && !z.sameKey (klitP Tryz.prog p0.1))):=by
 refine List.filter_congr (fun p hp'=>?_)
 unfold keepP
 dsimp only
 rw [other_key hk hp' hp]
 by_cases e:p.1=p0.1
 ·simp [e,h0]
 ·simp [e]
theorem FClear_any (b n:Nat) (l:List ((Nat × ByteArray) × Ft)) (w:World) (h:MapIs Tryz.prog 124 w b (rawL placeV ftV l)) (hs:∀ p∈l,∃ a c,p.2.v= .slice a p.2.l.length c) (hk:∀ p∈l,p.1.1<1000∧p.1.2.size≤100) :
    Calls Tryz.prog 89 #[.map (some b),.int .i64 (n:Int)] w fun r w'=>r= .returned (.tuple #[])∧Turn (fun k=>k=b) w w'∧MapIs Tryz.prog 124 w' b (rawL placeV ftV (l.filter (fun p=>decide (p.1.1≠n)))):=by
 have hap:=rawL_apart h.apart
 obtain ⟨D,m,hown,hhas,_⟩:=h.ranging hs hk
 have hblt:b<w.heap.size:=h.lt
 have KR:=hide (fun w' left (h:MapIs Tryz.prog 124 w' b (rawL placeV ftV (l.filter (keepP Tryz.prog n left)))) D' (ho:w'.ownsMap Tryz.prog 124 ftR b m D')=>h.reads (fun p hp=>hs p (List.mem_filter.1 hp).1) (fun p hp=>hk p (List.mem_filter.1 hp).1) ho)
 have KO:=hide hown
 have KD:=hide (fun left p0 hp h0=>keep_del (n:=n) (left:=left) (l:=l) hap hk (p0:=p0) hp h0)
 have KX:=hide (fun left p0 hp h0=>keep_other (n:=n) (left:=left) (l:=l) hk (p0:=p0) hp h0)
 have KV:=hide hs
 have KK:=hide hk
 have K0:Hid (l.filter (keepP Tryz.prog n (Maps.has D))=l):=List.filter_eq_self.2 (fun p hp=>by unfold keepP;rw [hhas p hp];simp)
 have HM:=hide h
 clear h hs hk hap hown hhas
 go_enter Tryz.func89,Tryz.ntmps89
 go_wp2_with (first
   | (at_range;refine wpList_range_own _ rfl _ 74 rfl 124 154 placeKeyed Tryz.underlying74 ftR b m D rfl (uH KO) ?_;intro w0 hrg0 hg0 hs0;go_frame)
   | go_in)
 go_loopw [] (fun wr=>∃ (left:Lit→Bool) (cnt:Nat) (D':DataW Value),Hid (MapIs Tryz.prog 124 wr b (rawL placeV ftV (l.filter (keepP Tryz.prog n left))))∧Hid (wr.ranges Tryz.prog 124 ftR b w.heap.size m D' left cnt)∧Hid (Turn (fun k=>k=b) w wr)) (fun wr=>wr.rangeLeft b w.heap.size)
 case atStart=>exact ⟨Maps.has D,Maps.size D,D,by rw [uH K0];exact (uH HM).heap (hg0.block b hblt (by simp)),hrg0,(Turn.grown hg0).mono (fun _ _ h=>by cases h)⟩
 case round =>
   obtain ⟨left,cnt,D',hM,hrg,hT⟩:=hrel
   go_wp2_with (first
     | (at_next;refine wpList_next_ranges _ rfl _ rfl 124 placeKeyed ftR mkP mkF place_inv ftR_inv b w.heap.size m D' left cnt rfl (uH hrg) ?_ ?_)
     | go_in)
   ·intro _ hl0
    go_wp2
    go_end0
    refine ⟨rfl,uH hT,?_⟩
    have e:l.filter (keepP Tryz.prog n left)=l.filter (fun p=>decide (p.1.1≠n)):=List.filter_congr (fun p _=>by unfold keepP;rw [hl0];simp)
    have:=uH hM
    rw [e] at this
    exact this
   ·intro xi xs fa fb sa sn sc kl y1 y2 w1 cnt1 hkx hlk hRv hat hrg1 hlt hg1 hs1 hen
    obtain ⟨p0,hp,ep,_,hkl⟩:=uH KR wr left (uH hM) D' (uH hrg).owns (xi,xs) kl ((fa,fb),(sa,sn,sc)) hkx (fun zd=>by rw [hat zd];cases hRv;rfl)
    have hp0:=(List.mem_filter.1 hp).1
    obtain ⟨⟨pn,pk⟩,pf⟩:=p0
    simp only [placeV,mkP,Value.agg.injEq,Array.mk.injEq,List.cons.injEq,Value.int.injEq,Value.string.injEq,true_and,and_true] at ep
    obtain ⟨rfl,rfl⟩:=ep
    have hM1:Hid (MapIs Tryz.prog 124 w1 b (rawL placeV ftV (l.filter (keepP Tryz.prog n left)))):=(uH hM).heap (hg1.block b (uH hM).lt (fun e=>by cases e;omega))
    have hT1:Hid (Turn (fun k=>k=b) w w1):=by
      refine (uH hT).sT (Turn.grown hg1) (fun k' hk' e=>?_)
      cases e
      omega
    have HR1:=hide hrg1
    have HLT:=hide hlt
    have HRL:=hide (uH hrg).left_eq
    have hkx':keyOf Tryz.prog 124 (placeV (pn,pk))=some kl:=hkx
    clear hrg1 hlt hat hRv hkx hlk hg1 hT hM hrg hp
    simp only [mkP,mkF] at hen ⊢
    by_cases hx:(pn:Int)=(n:Int)
    ·have hx':pn=n:=by omega
     have hdel:=uH KD left ((pn,pk),pf) hp0 hx'
     rw [← hkl] at hdel
     obtain ⟨w2,cnt2,hrun,r1,r2,r3⟩:=((uH HR1).alloc (.cells #[.int .i64 (pn:Int),.string pk] 124)).drop placeKeyed Tryz.underlying74 hkx' 0
     obtain ⟨w3,hrun3,hm3,ht3⟩:=map_del (w:=w1.alloc (.cells #[.int .i64 (pn:Int),.string pk] 124)) ((uH hM1).heap ((MapKept.heap_alloc _ _).2 b (uH hM1).lt)) placeKeyed Tryz.underlying74 placeV_inj hkx' 0
     rw [hrun] at hrun3
     injection hrun3 with _ e3
     subst e3
     rw [hdel] at hm3
     have HE:Hid (MapIs Tryz.prog 124 w2 b (rawL placeV ftV (l.filter (keepP Tryz.prog n (fun z=>(left z && !z.sameKey kl) && !z.sameKey kl))))∧w2.ranges Tryz.prog 124 ftR b w.heap.size m (D'.del kl) (fun z=>(left z && !z.sameKey kl) && !z.sameKey kl) cnt2∧Turn (fun k=>k=b) w w2∧cnt2≤cnt1):=⟨hm3,r1,((uH hT1).sA).sT (Turn.grown r3.grown) (fun _ _ e=>(Option.some.inj e)),r2⟩
     simp only [placeV] at hrun
     clear hx
     subst hx'
     clear hm3 r1 r2 r3 ht3 hdel hkx' hkl
     go_wp2
     refine ⟨⟨_,cnt2,_,(uH HE).1,(uH HE).2.1,(uH HE).2.2.1⟩,?_⟩
     rw [(uH HE).2.1.left_eq,uH HRL]
     exact Nat.lt_of_le_of_lt (uH HE).2.2.2 (uH HLT)
    ·have hx':pn≠n:=by omega
     have hoth:=uH KX left ((pn,pk),pf) hp0 hx'
     rw [← hkl] at hoth
     rw [hoth] at hM1
     clear hoth hkl hkx'
     go_wp2
     refine ⟨⟨fun z=>left z && !z.sameKey kl,cnt1,D',(uH hM1).heap ((MapKept.heap_alloc _ _).2 b (uH hM1).lt),(uH HR1).alloc _,(uH hT1).sA⟩,?_⟩
     rw [((uH HR1).alloc _).left_eq,uH HRL]
     exact uH HLT
end
section
open Go.RowKit
open Tier (Mes Ans Conf)
attribute [local go_sem ↓] Go.wp_at_zero Go.wp_at_succ
def delL (n:Nat) (l:List ((Nat × ByteArray) × Ent)) (ks:List ByteArray):List ((Nat × ByteArray) × Ent):=ks.foldl (fun l k=>adel l (n,k)) l
theorem delL_snoc (n:Nat) (l:List ((Nat × ByteArray) × Ent)) (ks:List ByteArray) (j:Nat) (k:ByteArray) (h:ks[j]?=some k):delL n l (ks.take (j+1))=adel (delL n l (ks.take j)) (n,k):=by
  rw [List.take_add_one,h]
  simp [delL]
def PS.clearE (s:PS) (n:Nat):PS:={ s with found:=delL n s.found (s.used n),used:=fun m=>if m=n then [] else s.used m }
def PS.clearF (s:PS) (n:Nat):PS:={ s with fts:=s.fts.filter (fun p=>decide (p.1.1≠n)) }
theorem Lies.usedAt {own:Own} {τ:Nat} {w:World} {bt:Nat} {g:Gh} {s:PS} (h:Lies own τ w bt g s) {n j:Nat} {k:ByteArray} (hn:n<6) (hj:(s.used n)[j]?=some k) :
    ∃ b c,g.u n= .slice (some ⟨b,0,none⟩) (s.used n).length c∧own b=some (τ,7+n)∧w.cell? ⟨b,j,none⟩=some (.string k):=by
 have hlen:j<(s.used n).length:=(List.getElem?_eq_some_iff.1 hj).1
 have hr:=(h.used n hn).row
 have hm:=(h.used n hn).mine
 rw [List.length_map] at hr
 have hr':=hr
 obtain ⟨hl,⟨hv,h0⟩|⟨b,cap,cur,hv,_⟩⟩:=hr
 ·omega
 ·rw [hv] at hr'
  refine ⟨b,cap,hv,hm b (by rw [hv];rfl),?_⟩
  rw [hr'.cellAt j (by omega)]
  have:=flatten_get (m:=1) ((s.used n).map fun k=>[Value.string k]) j 0 [.string k] (by intro y hy;obtain ⟨z,_,rfl⟩:=List.mem_map.1 hy;rfl) (by simp [hj]) (by omega)
  simpa using this
theorem Lies.emptied {own:Own} {τ:Nat} {w:World} {bt:Nat} {g:Gh} {s:PS} (h:Lies own τ w bt g s) {n:Nat} (hn:n<6) :
    Lies (dropO own (τ,7+n)) τ (w.setCell ⟨g.be,2+n,none⟩ (.slice none 0 0)) bt (setU g n (.slice none 0 0)) { s with used:=fun m=>if m=n then [] else s.used m }∧Step τ own (dropO own (τ,7+n)) w (w.setCell ⟨g.be,2+n,none⟩ (.slice none 0 0)):=by
 have hd:∀ {k' x},own k'=some (τ,x)→x≠7+n→dropO own (τ,7+n) k'=own k':=fun {k' x} ho hx=>by
   unfold dropO
   rw [if_neg]
   rw [ho]
   intro e
   cases e
   exact hx rfl
 have hblk:∀ k',k'≠g.be→(w.setCell ⟨g.be,2+n,none⟩ (.slice none 0 0)).heap[k']?=w.heap[k']?:=fun k' hk=>hSO hk
 have F:Fr (fun x=>x=5∨x=7+n) own (dropO own (τ,7+n)) τ w (w.setCell ⟨g.be,2+n,none⟩ (.slice none 0 0)) :=
   ⟨fun k' hk x hx ho=>⟨hblk k' (fun e=>by rw [e,h.entsO] at ho;cases ho;exact hx (Or.inl rfl)),hd ho (fun e=>hx (Or.inr e))⟩⟩
 refine ⟨⟨?_,⟨F.block h.tierO (by omega) h.tier.block⟩,F.own h.tierO (by omega) h.tier.lt,F.row h.pars (by omega),F.block h.origO (by omega) h.orig,F.own h.origO (by omega) (heap_lt h.orig),F.map h.recsO (by omega) h.recs,F.own h.recsO (by omega) h.recs.lt,?_,?_,F.map h.foundO (by omega) h.found,F.own h.foundO (by omega) h.found.lt,
   fun i hi=>?_,F.map h.ftsO (by omega) h.fts,F.own h.ftsO (by omega) h.fts.lt,fun p hp=>F.row (h.waits p hp) (by omega),F.row h.net (by omega),F.row h.ans (by omega)⟩,⟨(Turn.refl _ _).sS (Or.inr ⟨5,h.entsO⟩),fun k' hk=>?_⟩⟩
 ·intro k' hk
  have:=h.top k' (by simpa using hk)
  unfold dropO
  rw [this]
  rfl
 ·have:=heap_set (i:=2+n) (v:= .slice none 0 0) h.ents
  rw [entsC_set s g hn] at this
  exact this
 ·show dropO own (τ,7+n) g.be=_
  rw [hd h.entsO (by omega)];exact h.entsO
 ·by_cases e:i=n
  ·subst e
   simp only [setU,if_true]
   exact ⟨World.ownsRow_nil _ _ _ _,fun k' hk=>by cases hk⟩
  ·simp only [setU,if_neg e]
   exact F.row (h.used i hi) (by omega)
 ·by_cases e:own k'=some (τ,7+n)
  ·exact Or.inr ⟨⟨_,e⟩,Or.inl (by unfold dropO;rw [if_pos e])⟩
  ·exact Or.inl (by unfold dropO;rw [if_neg e])
theorem EClear_any (own:Own) (τ bt:Nat) (g:Gh) (s:PS) (n:Nat) (w:World) (h:Lies own τ w bt g s) (hn:n<6) (hul:(s.used n).length≤1000) (hks:∀ k∈s.used n,k.size≤100) :
    Calls Tryz.prog 88 #[.pointer (some ⟨g.be,0,none⟩),.int .i64 (n:Int)] w fun r w'=>r= .returned (.tuple #[])∧∃ own' g',Lies own' τ w' bt g' (s.clearE n)∧Step τ own own' w w'∧g.Like g':=by
 obtain ⟨ua,uc,hu⟩:=row_form (h.used n hn).row
 rw [List.length_map] at hu
 have dn:=h.usedCell hn
 rw [hu] at dn
 have HH:=hide h
 have HU:=hide hu
 have HK:=hide hks
 have i0:(0:Int)≤(n:Int):=by omega
 have i1:(n:Int)<6:=by omega
 clear h hu hks
 obtain ⟨L,hL⟩:∃ L,L=s.used n:=⟨_,rfl⟩
 rw [← hL] at dn HU HK hul
 have HLq:=hide hL
 clear hL
 have hul':(L.length:Int)≤1000:=by omega
 go_enter Tryz.func88,Tryz.ntmps88
 go_wp2
 go_loopw [13] (fun i wr=>∃ (j:Nat),j≤L.length∧i= .int .i64 (j:Int)∧Hid (Lies own τ wr bt g { s with found:=delL n s.found (L.take j) }∧Step τ own own w wr)) (fun i _=>L.length - (intOf i).toNat)
 case atStart=>exact ⟨0,Nat.zero_le _,by simp,by simpa [delL] using uH HH,Step.refl _ _ _⟩
 case round =>
   obtain ⟨j,hj,rfl,HR⟩:=hrel
   by_cases hlt:j<L.length
   ·obtain ⟨k,hk⟩:∃ k,L[j]?=some k:=⟨_,List.getElem?_eq_getElem hlt⟩
    have hk2:=uH HK k (List.mem_of_getElem? hk)
    obtain ⟨b,c,hub,_,cb⟩:=(uH HR).1.usedAt (k:=k) (j:=j) hn (by rw [← uH HLq];exact hk)
    have hub':=hub
    rw [uH HU] at hub'
    have hua:ua=some ⟨b,0,none⟩:=by injection hub'
    subst hua
    have j0:(0:Int)≤(j:Int):=by omega
    have j1:(j:Int)<(L.length:Int):=by omega
    have c1:wr.cell? ⟨g.be,1,none⟩=some (.map (some g.bf)):=cOf (uH HR).1.ents 1
    obtain ⟨kl,hkey⟩:=placeKey (p:=(n,k)) (by omega) hk2
    obtain ⟨w2,hrun,hm2,ht2⟩:=map_del (w:=wr) (uH HR).1.found placeKeyed Tryz.underlying112 placeV_inj hkey 0
    have HE:Hid (Lies own τ w2 bt g { s with found:=delL n s.found (L.take (j+1)) }∧Step τ own own w w2):=by
      obtain ⟨L2,S2⟩:=(uH HR).1.stored hm2 ht2
      rw [delL_snoc n s.found L j k hk]
      exact ⟨L2,(uH HR).2.trans S2⟩
    simp only [placeV] at hrun
    clear hm2 ht2 hkey HR hub hub'
    go_wp2
    go_roundw
    case rel=>exact ⟨j+1,by omega,by go_num,HE⟩
    case measure=>simp [intOf];omega
   ·have e:j=L.length:=by omega
    subst e
    rw [List.take_length] at HR
    have c2:wr.cell? ⟨g.be,2+n,none⟩=some (g.u n):=(uH HR).1.usedCell hn
    have f2:wr.frozen? ⟨g.be,2+n,none⟩=false:=fOf (uH HR).1.ents _
    have HE:=hide ((uH HR).1.emptied hn)
    go_wp2
    go_end0
    refine ⟨rfl,_,setU g n (.slice none 0 0),?_,(uH HR).2.trans (uH HE).2,Gh.like_setU _ _ _⟩
    have:=(uH HE).1
    unfold PS.clearE
    rw [← uH HLq]
    exact this
theorem mes_one (l:List Mes):∀ v∈(l.map mesL).flatten,v.oneCell'=true:=by
  intro v hv
  obtain ⟨x,hx,hv⟩:=List.mem_flatten.1 hv
  obtain ⟨m,_,rfl⟩:=List.mem_map.1 hx
  simp only [mesL,List.mem_cons,List.not_mem_nil,or_false] at hv
  rcases hv with rfl|rfl|rfl|rfl|rfl|rfl|rfl|rfl|rfl <;> rfl
theorem flatten_cut {α:Type} {m:Nat}:∀ (l:List (List α)) (i:Nat),(∀ y∈l,y.length=m)→(l.take i).flatten=l.flatten.take (i*m)∧(l.drop i).flatten=l.flatten.drop (i*m)
  | l,0,_=>by simp
  | [],i+1,_=>by simp
  | y :: r,i+1,h=>by
    have hy:=h y (by simp)
    obtain ⟨h1,h2⟩:=flatten_cut r i (fun z hz=>h z (by simp [hz]))
    have e:(i+1)*m=y.length+i*m:=by rw [hy,Nat.succ_mul];omega
    rw [List.take_succ_cons,List.drop_succ_cons,List.flatten_cons,List.flatten_cons,h1,h2,e]
    exact ⟨by rw [List.take_length_add_append],by rw [List.drop_length_add_append]⟩
theorem Lies.mesAt {own:Own} {τ:Nat} {w:World} {bt:Nat} {g:Gh} {s:PS} (h:Lies own τ w bt g s) {i:Nat} {m:Mes} (hi:s.net[i]?=some m) :
    ∃ nb nc cur,g.nv= .slice (some ⟨nb,0,none⟩) s.net.length nc∧own nb=some (τ,14)∧nb<w.heap.size∧w.heap[nb]?=some (.cells cur 37 (0,0))∧s.net.length≤nc∧cur.size=nc*9∧cur.toList.take (s.net.length*9)=(s.net.map mesL).flatten∧∀ j,j<9→w.cell? ⟨nb,i*9+j,none⟩=(mesL m)[j]?:=by
 have hlen:i<s.net.length:=(List.getElem?_eq_some_iff.1 hi).1
 have hr:=h.net.row
 rw [List.length_map] at hr
 have hr':=hr
 obtain ⟨hl,⟨hv,h0⟩|⟨b,cap,cur,hv,_,hg,h1,h2,h3,h4⟩⟩:=hr
 ·omega
 ·rw [hv] at hr'
  refine ⟨b,cap,cur,hv,h.net.mine b (by rw [hv];rfl),heap_lt hg,hg,h1,by simpa using h3,by simpa using h4,fun j hj=>?_⟩
  rw [hr'.cellAt (i*9+j) (by omega)]
  exact flatten_get (s.net.map mesL) i j (mesL m) (m:=9) (by intro y hy;obtain ⟨z,_,rfl⟩:=List.mem_map.1 hy;rfl) (by simp [hi]) hj
theorem isSent_any (own:Own) (τ bt:Nat) (g:Gh) (s:PS) (i:Int) (w:World) (h:Lies own τ w bt g s) (hp:s.net.length≤1000000000000) :
    Calls Tryz.prog 78 #[.pointer (some ⟨bt,0,none⟩),.int .i64 i] w fun r w'=>r= .returned (.bool (Nums.inB i 0 ((s.net.length:Int) - 1)))∧w'=w:=by
 obtain ⟨a,c,hv⟩:=row_form h.net.row
 rw [List.length_map] at hv
 have d0:w.cell? ⟨bt,15,none⟩=some (.slice a s.net.length c):=by rw [← hv];exact cOf h.tier.block 15
 clear h hv
 generalize s.net.length=m at *
 have hm:IntKind.i64.wrap ((m:Int) - 1)=(m:Int) - 1:=by rw [IntKind.wrap_i64];omega
 clear hp
 go_enter Tryz.func78,Tryz.ntmps78
 go_wp2_with fail
 refine (within_any i 0 ((m:Int) - 1) w).mono ?_
 rintro e w' ⟨rfl,rfl⟩
 go_wp2
 go_ret
 exact ⟨rfl,rfl⟩
theorem Lies.took {own:Own} {τ:Nat} {w w':World} {bt:Nat} {g:Gh} {s:PS} (h:Lies own τ w bt g s) {i nb nc:Nat} {cur cur':Array Value} (hi:i<s.net.length) (ho:own nb=some (τ,14)) (hlc:s.net.length≤nc) (hcs:cur.size=nc*9) (hcf:cur.toList.take (s.net.length*9)=(s.net.map mesL).flatten) (hv:g.nv= .slice (some ⟨nb,0,none⟩) s.net.length nc)
    (hT:Turn (fun k=>k=nb∨k=bt) w w') (hb':w'.heap[nb]?=some (.cells cur' 37 (0,0))) (hsz:cur'.size=cur.size) (htk:cur'.toList.take ((s.net.length - 1)*9)=cur.toList.take (i*9) ++ (cur.toList.drop ((i+1)*9)).take ((s.net.length - 1 - i)*9))
    (hbt:w'.heap[bt]?=some (.cells ({ s.ts g with nv:= .slice (some ⟨nb,0,none⟩) (s.net.length - 1) nc }:TS).cells 77 (0,0))) :
    Lies own τ w' bt { g with nv:= .slice (some ⟨nb,0,none⟩) (s.net.length - 1) nc } (s.taken i)∧Step τ own own w w':=by
 have F:Fr (fun x=>x=1∨x=14) own own τ w w':=⟨fun k' hk x hx ho'=>⟨hT.block k' hk (fun e=>by
   rcases e with e|e
   ·rw [e,ho] at ho';cases ho';exact hx (Or.inr rfl)
   ·rw [e,h.tierO] at ho';cases ho';exact hx (Or.inl rfl)),rfl⟩⟩
 refine ⟨⟨fun k' hk=>h.top k' (Nat.le_trans hT.size hk),⟨hbt⟩,h.tierO,F.row h.pars (by omega),F.block h.origO (by omega) h.orig,h.origO,F.map h.recsO (by omega) h.recs,h.recsO,F.block h.entsO (by omega) h.ents,h.entsO,F.map h.foundO (by omega) h.found,h.foundO,fun i hi=>F.row (h.used i hi) (by omega),F.map h.ftsO (by omega) h.fts,h.ftsO,fun p hp=>F.row (h.waits p hp) (by omega),?_,F.row h.ans (by omega)⟩,⟨hT.mono (fun k' _ e=>e.elim (fun e=>⟨14,by rw [e];exact ho⟩) (fun e=>⟨1,by rw [e];exact h.tierO⟩)),fun _ _=>Or.inl rfl⟩⟩
 have hlen:(s.taken i).net.length=s.net.length - 1:=by
   show (s.net.take i ++ s.net.drop (i+1)).length=_
   simp
   omega
 have hu:∀ y∈s.net.map mesL,y.length=9:=by intro y hy;obtain ⟨z,_,rfl⟩:=List.mem_map.1 hy;rfl
 have hfl:((s.taken i).net.map mesL).flatten=cur.toList.take (i*9) ++ (cur.toList.drop ((i+1)*9)).take ((s.net.length - 1 - i)*9):=by
   show ((s.net.take i ++ s.net.drop (i+1)).map mesL).flatten=_
   rw [List.map_append,List.flatten_append,List.map_take,List.map_drop,(flatten_cut _ i hu).1,(flatten_cut _ (i+1) hu).2,← hcf,List.take_take,List.drop_take]
   congr 2
   ·omega
   ·omega
 obtain ⟨_,_⟩:=h.net
 have hr:=h.net.row
 rw [List.length_map] at hr
 obtain ⟨hl,⟨hv',h0⟩|⟨b,cap,cur0,hv',hb0,hg,h1,h2,h3,h4⟩⟩:=hr
 ·omega
 ·rw [hv] at hv'
  cases hv'
  refine ⟨⟨?_,Or.inr ⟨nb,nc,cur',by rw [List.length_map,hlen],Nat.zero_le _,hb',by rw [List.length_map,hlen];omega,h2,by rw [hsz];simpa using hcs,?_⟩⟩,fun k' hk'=>by cases hk';exact ho⟩
  ·rw [List.length_map,hlen,hfl,List.length_append,List.length_take,List.length_take,List.length_drop]
   simp only [Array.length_toList]
   omega
  ·rw [List.length_map,hlen,hfl]
   simpa using htk
end
end Go.Proofs.YtpdkojgepagbnaaGreatDoor
