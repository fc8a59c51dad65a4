/-
  The other calls: the program's tier and the plain one.
-/
import Derived.Test.YtpdkojgepagbnaaGreatDoorJ16
import Derived.Test.YtpdkojgepagbnaaGreatDoorJ21
import Derived.Test.YtpdkojgepagbnaaGreatDoorJ22
namespace Go.Proofs.YtpdkojgepagbnaaGreatDoor
set_option maxRecDepth 100000
set_option maxHeartbeats 8000000
section
open Tier (Mes Ans Conf St Kept Wtr Ftc Cac Item)
theorem Ref.taken {s:PS} {t:St} (h:Ref s t) (i:Nat):Ref (s.taken i) (t.taken i) :=
  h.talk rfl rfl rfl rfl rfl rfl rfl rfl rfl rfl rfl (by show t.net.take i ++ _=s.net.take i ++ _;rw [h.net]) h.answers
theorem Ref.doubled {s:PS} {t:St} (h:Ref s t) (m:Mes):Ref { s with net:=s.net ++ [m] } { t with net:=t.net ++ [m] } :=
  h.talk rfl rfl rfl rfl rfl rfl rfl rfl rfl rfl rfl (by show t.net ++ _=s.net ++ _;rw [h.net]) h.answers
theorem Ref.emptied {s:PS} {t:St} (h:Ref s t):Ref { s with answers:=[] } { t with answers:=[] } :=
  h.talk rfl rfl rfl rfl rfl rfl rfl rfl rfl rfl rfl h.net rfl
theorem Ref.tick {s:PS} {t:St} (h:Ref s t) {n:Nat} (hn:n<s.c.parents.length) (c:Int):Ref (s.tick n c) (t.tick n c):=by
  have hnl:n<t.caches.length:=by rw [h.len];exact hn
  have hcac:∀ m,(t.tick n c).cac m=if m=n then { t.cac n with clock:=c } else t.cac m:=fun m=>by
    unfold Tier.St.tick
    rw [Tier.cac_set]
    by_cases e:m=n
    ·rw [if_pos ⟨e,hnl⟩,if_pos e]
    ·rw [if_neg (fun x=>e x.1),if_neg e]
  refine ⟨h.c,fun k=>h.items k,(Tier.length_set t n _).trans h.len,fun m hm=>?_,fun m hm=>?_,h.has,h.nodup,h.room,fun m hm=>?_,h.apart,h.apartE,h.some1,h.serial,h.net,h.answers⟩
  ·rw [hcac]
   show _=(if m=n then c else s.clk m)
   split
   ·rfl
   ·exact h.clock m hm
  ·rw [hcac]
   split
   ·next e=>subst e;exact h.ents m hm
   ·exact h.ents m hm
  ·rw [hcac]
   split
   ·next e=>subst e;exact h.fts m hm
   ·exact h.fts m hm
theorem aget_delL (n:Nat):∀ (ks:List ByteArray) (l:List ((Nat × ByteArray) × Ent)),l.Pairwise (fun p q=>p.1≠q.1)→∀ m j,((m=n∧j∈ks)→aget (delL n l ks) (m,j)=none)∧(¬ (m=n∧j∈ks)→aget (delL n l ks) (m,j)=aget l (m,j))
  | [],l,_,m,j=>⟨fun h=>(by cases h.2),fun _=>rfl⟩
  | k :: ks,l,h,m,j=>by
    have ih:=aget_delL n ks (adel l (n,k)) (h.sublist (adel_sub _ _)) m j
    have hd:aget (adel l (n,k)) (m,j)=if (n,k)=(m,j) then none else aget l (m,j):=aget_adel h _ _
    show (_→aget (delL n (adel l (n,k)) ks) (m,j)=none)∧(_→aget (delL n (adel l (n,k)) ks) (m,j)=_)
    by_cases h1:m=n∧j∈ks
    ·exact ⟨fun _=>ih.1 h1,fun hn=>absurd ⟨h1.1,List.mem_cons_of_mem _ h1.2⟩ hn⟩
    ·rw [ih.2 h1,hd]
     constructor
     ·rintro ⟨e,hm⟩
      rcases List.mem_cons.1 hm with e'|hm
      ·rw [if_pos (by rw [e,e'])]
      ·exact absurd ⟨e,hm⟩ h1
     ·intro hn
      rw [if_neg]
      intro e
      cases e
      exact hn ⟨rfl,List.mem_cons_self⟩
theorem ftsOf_clear (n m:Nat) (l:List ((Nat × ByteArray) × Ft)):ftsOf (l.filter (fun p=>decide (p.1.1≠n))) m=if m=n then [] else ftsOf l m:=by
  unfold ftsOf
  rw [List.filter_filter]
  split
  ·next e =>
   subst e
   rw [List.filter_eq_nil_iff.2 (fun p _=>by simp)]
   rfl
  ·next e =>
   congr 1
   refine List.filter_congr (fun p _=>?_)
   by_cases h:p.1.1=m
   ·simp [h,e]
   ·simp [h]
theorem Ref.crash {s:PS} {t:St} (h:Ref s t) {n:Nat} (hn:n<s.c.parents.length):Ref ((s.clearE n).clearF n) (t.crash n):=by
  have hnl:n<t.caches.length:=by rw [h.len];exact hn
  have hcac:∀ m,(t.crash n).cac m=if m=n then ⟨(t.cac n).clock,[],[]⟩ else t.cac m:=fun m=>by
    unfold Tier.St.crash
    rw [Tier.cac_set]
    by_cases e:m=n
    ·rw [if_pos ⟨e,hnl⟩,if_pos e]
    ·rw [if_neg (fun x=>e x.1),if_neg e]
  have hent:=fun m j=>aget_delL n (s.used n) s.found h.apartE m j
  have hent1:∀ j,((s.clearE n).clearF n).entry n j=none:=fun j=>by
    by_cases hj:j∈s.used n
    ·exact (hent n j).1 ⟨rfl,hj⟩
    ·refine ((hent n j).2 (fun x=>hj x.2)).trans ?_
     show s.entry n j=none
     cases he:s.entry n j with
     | none=>rfl
     | some e=>exact absurd ((h.has n hn j).2 (by rw [he];rfl)) hj
  have hent2:∀ m j,m≠n→((s.clearE n).clearF n).entry m j=s.entry m j:=fun m j hm=>(hent m j).2 (fun x=>hm x.1)
  have hus:∀ m,((s.clearE n).clearF n).used m=if m=n then [] else s.used m:=fun m=>rfl
  refine ⟨h.c,fun k=>h.items k,(Tier.length_set t n _).trans h.len,fun m hm=>?_,fun m hm=>?_,fun m hm k=>?_,fun m hm=>?_,fun m hm=>?_,fun m hm=>?_,h.apart.filter _,h.apartE.sublist (delL_sub n _ _),h.some1,h.serial,h.net,h.answers⟩
  ·rw [hcac]
   split
   ·next e=>rw [e];exact h.clock n hn
   ·exact h.clock m hm
  ·rw [hcac,hus]
   split
   ·rfl
   ·next e =>
    have:((s.clearE n).clearF n).kept m=s.kept m:=by funext k;unfold PS.kept;rw [hent2 m k e]
    rw [this];exact h.ents m hm
  ·rw [hus]
   split
   ·next e=>rw [e,hent1];simp
   ·next e=>rw [hent2 m k e];exact h.has m hm k
  ·rw [hus]
   split
   ·exact List.Pairwise.nil
   ·exact h.nodup m hm
  ·rw [hus]
   split
   ·have:=h.some1
    show ((0:Nat):Int)≤s.c.entries
    omega
   ·exact h.room m hm
  ·rw [hcac]
   show (ftsOf (s.fts.filter (fun p=>decide (p.1.1≠n))) m).Perm _
   rw [ftsOf_clear]
   split
   ·exact List.Perm.refl _
   ·exact h.fts m hm
theorem record_write (s:PS) (k j:ByteArray) (p:Int) (v:ByteArray):(s.write k p v).record j=if k=j then ⟨(s.record k).ver+1,p,v⟩ else s.record j:=by
  unfold PS.write
  show (aget (aput s.recs k _) j).getD noRec=_
  rw [aget_aput]
  split <;> rfl
theorem Ref.write {s:PS} {t:St} (h:Ref s t) (k:ByteArray) (p:Int) (v:ByteArray):Ref (s.write k p v) (t.changes ⟨k,(t.item k).ver+1,p,v⟩):=by
  refine ⟨h.c,fun j=>?_,h.len,h.clock,h.ents,h.has,h.nodup,h.room,h.fts,h.apart,h.apartE,h.some1,h.serial,h.net,h.answers⟩
  rw [record_write]
  by_cases e:k=j
  ·subst e
   rw [if_pos rfl,Tier.item_changes_same,h.items k]
  ·rw [if_neg e,Tier.item_changes_other _ _ _ e,h.items j]
theorem Ref.new {c:Conf} (h:ConfOK c):Ref (PS.new c) (Tier.new c):=by
  have hcac:∀ n,(Tier.new c).cac n=Tier.noCac:=fun n=>by
    unfold Tier.St.cac Tier.new
    dsimp only
    by_cases hn:n<c.parents.length
    ·rw [List.getD_eq_getElem?_getD,List.getElem?_replicate,if_pos hn];rfl
    ·rw [List.getD_eq_getElem?_getD,List.getElem?_replicate,if_neg hn];rfl
  refine ⟨rfl,fun k=>rfl,by simp [Tier.new,PS.new],fun n _=>by rw [hcac];rfl,fun n _=>by rw [hcac];rfl,fun n _ k=>by simp [PS.new,PS.entry,aget],fun n _=>List.Pairwise.nil,fun n _=>by have:=h.entries.1;show ((0:Nat):Int)≤c.entries;omega,fun n _=>by rw [hcac];exact List.Perm.refl _,List.Pairwise.nil,List.Pairwise.nil,h.entries.1,rfl,rfl,rfl⟩
structure RecsOK (b:Nat) (s:PS) (t:St):Prop where
  apart:s.recs.Pairwise (fun p q=>p.1≠q.1)
  keys:(t.items.map (fun y:Tier.Item=>y.key)).Perm (s.recs.map (fun q:ByteArray × Rec=>q.1))
  few:s.recs.length≤16
  ver:∀ p∈s.recs,1≤p.2.ver∧p.2.ver≤b
theorem RecsOK.mono {a b:Nat} {s:PS} {t:St} (h:RecsOK a s t) (hab:a≤b):RecsOK b s t:=⟨h.apart,h.keys,h.few,fun p hp=>by have:=h.ver p hp;omega⟩
theorem RecsOK.same {b:Nat} {s s':PS} {t t':St} (h:RecsOK b s t) (hs:s'.recs=s.recs) (ht:t'.items=t.items):RecsOK b s' t':=⟨by rw [hs];exact h.apart,by rw [hs,ht];exact h.keys,by rw [hs];exact h.few,by rw [hs];exact h.ver⟩
theorem RecsOK.new (c:Conf):RecsOK 0 (PS.new c) (Tier.new c):=⟨List.Pairwise.nil,List.Perm.refl _,Nat.zero_le _,fun p hp=>by cases hp⟩
theorem adel_keyL {κ ε:Type} [DecidableEq κ] {k:κ}:∀ {l:List (κ × ε)},l.Pairwise (fun p q=>p.1≠q.1)→(adel l k).map (·.1)=(l.map (·.1)).filter (fun x=>decide (x≠k))
  | [],_=>rfl
  | q :: r,h=>by
    obtain ⟨h1,h2⟩:=List.pairwise_cons.1 h
    unfold adel
    split
    ·next e =>
     rw [List.map_cons,List.filter_cons_of_neg (by simp [e])]
     symm
     refine List.filter_eq_self.2 (fun x hx=>?_)
     obtain ⟨p,hp,rfl⟩:=List.mem_map.1 hx
     exact decide_eq_true (fun e'=>h1 p hp (e.trans e'.symm))
    ·next e =>
     rw [List.map_cons,List.map_cons,List.filter_cons_of_pos (by simpa using e),adel_keyL h2]
theorem RecsOK.write {b:Nat} {s:PS} {t:St} (h:RecsOK b s t) (k:ByteArray) (p:Int) (v:ByteArray) (hf:aget s.recs k=none→s.recs.length<16):RecsOK (b+1) (s.write k p v) (t.changes ⟨k,(t.item k).ver+1,p,v⟩):=by
  refine ⟨aput_keys h.apart,?_,?_,fun q hq=>?_⟩
  ·show ((t.items.filter (fun y:Tier.Item=>decide (y.key≠k)) ++ [_]).map (fun y:Tier.Item=>y.key)).Perm ((aput s.recs k _).map (fun q:ByteArray × Rec=>q.1))
   refine List.Perm.trans ?_ ((aput_perm k _ s.recs).map (·.1)).symm
   rw [List.map_append,List.map_append,adel_keyL h.apart]
   refine List.Perm.append ?_ (List.Perm.refl _)
   have e:(t.items.filter (fun y:Tier.Item=>decide (y.key≠k))).map (fun y:Tier.Item=>y.key)=(t.items.map (fun y:Tier.Item=>y.key)).filter (fun x=>decide (x≠k)):=by rw [List.filter_map];rfl
   rw [e]
   exact h.keys.filter _
  ·show (aput s.recs k _).length≤16
   cases hr:aget s.recs k with
   | none =>
     have:=hf hr
     have:=aput_length s.recs k ⟨(s.record k).ver+1,p,v⟩
     omega
   | some o=>rw [aput_len_old hr];exact h.few
  ·rcases of_aput hq with e|e
   ·subst e
    show 1≤(s.record k).ver+1∧(s.record k).ver+1≤((b+1:Nat):Int)
    unfold PS.record
    cases hr:aget s.recs k with
    | none=>show 1≤(0:Int)+1∧(0:Int)+1≤_;omega
    | some o =>
      have:=h.ver _ (aget_mem hr)
      show 1≤o.ver+1∧o.ver+1≤_
      dsimp only at this
      omega
   ·have:=h.ver q e
    omega
end
end Go.Proofs.YtpdkojgepagbnaaGreatDoor
