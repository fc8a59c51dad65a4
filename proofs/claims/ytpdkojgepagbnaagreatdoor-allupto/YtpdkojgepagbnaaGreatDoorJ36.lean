/-
  Every call of the program's tier, right or wrong, told by the plain functions.
  What the document's calls ask of the plain data follows from what the program's tier keeps.
  What a play of the law keeps in memory: the pairs of tiers, the lists that came out and are written over.
  Marks are appended to a list of marks, and the list itself stays what it was.
  A list is written over, element by element.
-/
import Derived.Test.YtpdkojgepagbnaaGreatDoorJ29
import Derived.Test.YtpdkojgepagbnaaGreatDoorJ35
namespace Go.Proofs.YtpdkojgepagbnaaGreatDoor
set_option maxRecDepth 100000
set_option maxHeartbeats 8000000
section
open Go.RowKit
open Tier (Mes Ans Conf St)
variable {own:Own} {τ:Nat} {w w':World} {bt b:Nat} {t:St}
theorem TierAt.same (h:TierAt own τ w bt b t) (T:Turn nO w w'):Leaves own τ w bt (b+5) t w':=⟨own,(h.turn T).mono (by omega),Step.of_turn T⟩
theorem TierAt.lenC (h:TierAt own τ w bt b t):t.caches.length=t.c.parents.length:=by
  obtain ⟨g,s,L,S,F,R,Q⟩:=h.is
  rw [R.len,R.c]
theorem cacheB_cases {t:St} {p:Nat} (hl:t.caches.length=p) (n:Int):(cacheB t n=false∧Nums.inB n 1 ((p:Int) - 1)=false)∨(cacheB t n=true∧∃ m:Nat,n=m∧0<m∧m<p):=by
  cases hc:cacheB t n with
  | false =>
    refine Or.inl ⟨rfl,?_⟩
    cases hi:Nums.inB n 1 ((p:Int) - 1) with
    | false=>rfl
    | true =>
      have:=Nums.inB_iff.1 hi
      unfold cacheB at hc
      rw [hl,decide_eq_true (by omega),decide_eq_true (by omega)] at hc
      cases hc
  | true =>
    unfold cacheB at hc
    rw [Bool.and_eq_true,decide_eq_true_eq,decide_eq_true_eq,hl] at hc
    exact Or.inr ⟨rfl,n.toNat,by omega,by omega,by omega⟩
theorem placeB_cases (t:St) (i:Int):(placeB t i=false∧Nums.inB i 0 ((t.net.length:Int) - 1)=false)∨(placeB t i=true∧∃ (j:Nat) (m:Mes),i=(j:Int)∧j<t.net.length∧t.net[j]?=some m):=by
  cases hc:placeB t i with
  | false =>
    refine Or.inl ⟨rfl,?_⟩
    cases hi:Nums.inB i 0 ((t.net.length:Int) - 1) with
    | false=>rfl
    | true =>
      have:=Nums.inB_iff.1 hi
      unfold placeB at hc
      rw [decide_eq_true (by omega),decide_eq_true (by omega)] at hc
      cases hc
  | true=>exact Or.inr ⟨rfl,placeB_nat hc⟩
theorem TierAt.writeA (h:TierAt own τ w bt b t) (hK:KeyTab w) (hb:b+10≤1000000000000) {k v:ByteArray} (hks:k.size≤maxLen) :
    Calls Tryz.prog 37 #[.pointer (some ⟨bt,0,none⟩),.string k,.string v] w fun r w'=>r= .returned (.int .i64 (writeE t k v))∧Leaves own τ w bt (b+5) (writeS t k v) w':=by
 have h0:=h
 obtain ⟨g,s,L,S,F,R,Q⟩:=h.is
 unfold writeS writeE
 cases hk:keyB k with
 | false =>
   rw [if_pos rfl,if_neg (by decide)]
   refine (Write_call own τ bt g s k v 3 w L (OWrite_key g.bo k v w hK hks hk)).mono ?_
   rintro r w' ⟨rfl,T⟩
   exact ⟨rfl,h0.same T⟩
 | true =>
   rw [if_neg (by decide)]
   by_cases hv:16<v.size
   ·rw [if_pos hv,if_neg (by decide)]
    refine (Write_call own τ bt g s k v 4 w L (OWrite_value g.bo k v w hK hk (by unfold valB;exact decide_eq_false (by omega)))).mono ?_
    rintro r w' ⟨rfl,T⟩
    exact ⟨rfl,h0.same T⟩
   ·rw [if_neg hv]
    have hv':valB v=true:=by unfold valB;exact decide_eq_true (by omega)
    by_cases hf:(t.item k).ver=0∧16≤t.items.length
    ·rw [if_pos hf,if_neg (by decide)]
     have hr:aget s.recs k=none:=by
       cases hr:aget s.recs k with
       | none=>rfl
       | some rc =>
         have h1:=hf.1
         rw [R.items k] at h1
         have h1:(s.record k).ver=0:=h1
         unfold PS.record at h1
         rw [hr] at h1
         have h2:=(Q.ver _ (aget_mem hr)).1
         have h1:rc.ver=0:=h1
         have h2:1≤rc.ver:=h2
         omega
     have h2:=Q.keys.length_eq
     rw [List.length_map,List.length_map] at h2
     refine (Write_call own τ bt g s k v 7 w L (OWrite_full own τ bt g s k v w L hK hk hv' hr (by omega))).mono ?_
     rintro r w' ⟨rfl,T⟩
     exact ⟨rfl,h0.same T⟩
    ·rw [if_neg hf,if_pos rfl]
     exact h0.write hK hb hk hv' (fun e=>by omega)
theorem TierAt.removeA (h:TierAt own τ w bt b t) (hK:KeyTab w) (hb:b+10≤1000000000000) {k:ByteArray} (hks:k.size≤maxLen) :
    Calls Tryz.prog 39 #[.pointer (some ⟨bt,0,none⟩),.string k] w fun r w'=>r= .returned (.int .i64 (removeE t k))∧Leaves own τ w bt (b+5) (removeS t k) w':=by
 have h0:=h
 obtain ⟨g,s,L,S,F,R,Q⟩:=h.is
 unfold removeS removeE
 cases hk:keyB k with
 | false =>
   rw [if_pos rfl,if_neg (by decide)]
   refine (Remove_key own τ bt g s k w L hK hks hk).mono ?_
   rintro r w' ⟨rfl,T⟩
   exact ⟨rfl,h0.same T⟩
 | true =>
   rw [if_neg (by decide)]
   by_cases hp:(t.item k).pres=0
   ·rw [if_pos hp,if_neg (by decide)]
    exact h0.removeNone hK hk hp
   ·rw [if_neg hp,if_pos rfl]
    exact h0.remove hK hb hk hp
theorem TierAt.clockA (h:TierAt own τ w bt b t) {n r:Int} :
    Calls Tryz.prog 41 #[.pointer (some ⟨bt,0,none⟩),.int .i64 n,.int .i64 r] w fun e w'=>e= .returned (.int .i64 (clockE t n r))∧Leaves own τ w bt (b+5) (clockS t n r) w':=by
 have h0:=h
 have hl:=h.lenC
 obtain ⟨g,s,L,S,F,R,Q⟩:=h.is
 unfold clockS clockE
 rcases cacheB_cases hl n with ⟨hc,hi⟩|⟨hc,m,rfl,m0,m1⟩
 ·rw [if_pos hc,if_neg (by decide)]
  rw [R.c] at hi
  refine (Clock_node own τ bt g s n r w L S.len.2 hi).mono ?_
  rintro e w' ⟨rfl,rfl⟩
  exact ⟨rfl,h0.same (Turn.refl _ _)⟩
 ·rw [if_neg (by rw [hc];decide),Int.toNat_natCast]
  by_cases hr:r<0∨1099511627776<r
  ·rw [if_pos hr,if_neg (by decide)]
   exact h0.clockTime m0 m1 (by omega)
  ·rw [if_neg hr,if_pos rfl]
   exact h0.clock m0 m1 (by omega)
theorem TierAt.askA (h:TierAt own τ w bt b t) (hK:KeyTab w) (hb:b+10≤1000000000000) {n id:Int} {k:ByteArray} (hks:k.size≤maxLen) :
    Calls Tryz.prog 43 #[.pointer (some ⟨bt,0,none⟩),.int .i64 n,.int .i64 id,.string k] w fun r w'=>r= .returned (.int .i64 (askE t n k))∧Leaves own τ w bt (b+5) (askS t n id k) w':=by
 have h0:=h
 have hl:=h.lenC
 obtain ⟨g,s,L,S,F,R,Q⟩:=h.is
 unfold askS askE
 rcases cacheB_cases hl n with ⟨hc,hi⟩|⟨hc,m,rfl,m0,m1⟩
 ·rw [if_pos hc,if_neg (by decide)]
  rw [R.c] at hi
  refine (Ask_bad bt n id 2 k w (by decide) (place_node own τ bt g s n k w L S.len.2 hi)).mono ?_
  rintro e w' ⟨rfl,T⟩
  exact ⟨rfl,h0.same T⟩
 ·rw [if_neg (by rw [hc];decide),Int.toNat_natCast]
  cases hk:keyB k with
  | false =>
    rw [if_pos rfl,if_neg (by decide)]
    have m1':m<s.c.parents.length:=by rw [← R.c];exact m1
    refine (Ask_bad bt m id 3 k w (by decide) (place_key own τ bt g s m k w L hK hks S.len.2 (inB_cache m0 m1') hk)).mono ?_
    rintro e w' ⟨rfl,T⟩
    exact ⟨rfl,h0.same T⟩
  | true =>
    rw [if_neg (by decide),if_pos rfl]
    exact h0.ask hK hb m0 m1 hk
theorem TierAt.timeA (h:TierAt own τ w bt b t) (hK:KeyTab w) (hb:b+10≤1000000000000) {n:Int} {k:ByteArray} (hks:k.size≤maxLen) :
    Calls Tryz.prog 51 #[.pointer (some ⟨bt,0,none⟩),.int .i64 n,.string k] w fun r w'=>r= .returned (.int .i64 (timeE t n k))∧Leaves own τ w bt (b+5) (timeS t n k) w':=by
 have h0:=h
 have hl:=h.lenC
 obtain ⟨g,s,L,S,F,R,Q⟩:=h.is
 unfold timeS timeE
 rcases cacheB_cases hl n with ⟨hc,hi⟩|⟨hc,m,rfl,m0,m1⟩
 ·rw [if_pos hc,if_neg (by decide)]
  rw [R.c] at hi
  refine (Timeout_bad bt n 2 k w (by decide) (place_node own τ bt g s n k w L S.len.2 hi)).mono ?_
  rintro e w' ⟨rfl,T⟩
  exact ⟨rfl,h0.same T⟩
 ·rw [if_neg (by rw [hc];decide),Int.toNat_natCast]
  cases hk:keyB k with
  | false =>
    rw [if_pos rfl,if_neg (by decide)]
    have m1':m<s.c.parents.length:=by rw [← R.c];exact m1
    refine (Timeout_bad bt m 3 k w (by decide) (place_key own τ bt g s m k w L hK hks S.len.2 (inB_cache m0 m1') hk)).mono ?_
    rintro e w' ⟨rfl,T⟩
    exact ⟨rfl,h0.same T⟩
  | true =>
    rw [if_neg (by decide)]
    have e:(if t.timeoutE m k=0 then t.timeout m k else t)=t.timeout m k:=by
      by_cases hz:t.timeoutE m k=0
      ·rw [if_pos hz]
      ·rw [if_neg hz]
       unfold Tier.St.timeoutE at hz
       unfold Tier.St.timeout
       cases hf:t.fetch m k with
       | none=>rfl
       | some f=>rw [hf] at hz;exact absurd rfl hz
    rw [e]
    exact h0.timeout hK hb m0 m1 hk
theorem TierAt.crashA (h:TierAt own τ w bt b t) {n:Int} :
    Calls Tryz.prog 53 #[.pointer (some ⟨bt,0,none⟩),.int .i64 n] w fun r w'=>r= .returned (.int .i64 (crashE t n))∧Leaves own τ w bt (b+5) (crashS t n) w':=by
 have h0:=h
 have hl:=h.lenC
 obtain ⟨g,s,L,S,F,R,Q⟩:=h.is
 unfold crashS crashE
 rcases cacheB_cases hl n with ⟨hc,hi⟩|⟨hc,m,rfl,m0,m1⟩
 ·rw [if_pos hc,if_neg (by decide)]
  rw [R.c] at hi
  refine (Crash_node own τ bt g s n w L S.len.2 hi).mono ?_
  rintro e w' ⟨rfl,T⟩
  exact ⟨rfl,h0.same (by first|exact T|(rw [T];exact Turn.refl _ _))⟩
 ·rw [if_neg (by rw [hc];decide),if_pos rfl,Int.toNat_natCast]
  exact h0.crash m0 m1
theorem TierAt.delA (h:TierAt own τ w bt b t) (hb:b+10≤1000000000000) {i:Int} :
    Calls Tryz.prog 45 #[.pointer (some ⟨bt,0,none⟩),.int .i64 i] w fun r w'=>r= .returned (.int .i64 (loseE t i))∧Leaves own τ w bt (b+5) (delS t i) w':=by
 have h0:=h
 have hn:=h.netLen.1
 obtain ⟨g,s,L,S,F,R,Q⟩:=h.is
 unfold delS loseE
 rcases placeB_cases t i with ⟨hc,hi⟩|⟨hc,j,m,rfl,hj,hm⟩
 ·rw [if_neg (by rw [hc];decide),if_neg (by rw [hc];decide)]
  rw [R.net] at hi hn
  refine (Deliver_place own τ bt g s i w L (by omega) hi).mono ?_
  rintro e w' ⟨rfl,T⟩
  exact ⟨rfl,h0.same (by first|exact T|(rw [T];exact Turn.refl _ _))⟩
 ·rw [if_pos hc,if_pos hc,Int.toNat_natCast,hm]
  exact h0.deliver hb hm
theorem TierAt.loseA (h:TierAt own τ w bt b t) (hb:b+10≤1000000000000) {i:Int} :
    Calls Tryz.prog 47 #[.pointer (some ⟨bt,0,none⟩),.int .i64 i] w fun r w'=>r= .returned (.int .i64 (loseE t i))∧Leaves own τ w bt (b+5) (loseS t i) w':=by
 have h0:=h
 have hn:=h.netLen.1
 obtain ⟨g,s,L,S,F,R,Q⟩:=h.is
 unfold loseS loseE
 rcases placeB_cases t i with ⟨hc,hi⟩|⟨hc,j,m,rfl,hj,hm⟩
 ·rw [if_neg (by rw [hc];decide),if_neg (by rw [hc];decide)]
  rw [R.net] at hi hn
  refine (Lose_place own τ bt g s i w L (by omega) hi).mono ?_
  rintro e w' ⟨rfl,T⟩
  exact ⟨rfl,h0.same (by first|exact T|(rw [T];exact Turn.refl _ _))⟩
 ·rw [if_pos hc,if_pos hc,Int.toNat_natCast]
  exact h0.lose hb hm
theorem TierAt.doubleA (h:TierAt own τ w bt b t) (hb:b+10≤1000000000000) {i:Int} :
    Calls Tryz.prog 49 #[.pointer (some ⟨bt,0,none⟩),.int .i64 i] w fun r w'=>r= .returned (.int .i64 (doubleE t i))∧Leaves own τ w bt (b+5) (doubleS t i) w':=by
 have h0:=h
 have hn:=h.netLen.1
 obtain ⟨g,s,L,S,F,R,Q⟩:=h.is
 unfold doubleS doubleE
 rcases placeB_cases t i with ⟨hc,hi⟩|⟨hc,j,m,rfl,hj,hm⟩
 ·rw [if_pos hc,if_neg (by decide)]
  rw [R.net] at hi hn
  refine (Double_place own τ bt g s i w L (by omega) hi).mono ?_
  rintro e w' ⟨rfl,T⟩
  exact ⟨rfl,h0.same (by first|exact T|(rw [T];exact Turn.refl _ _))⟩
 ·rw [if_neg (by rw [hc];decide),Int.toNat_natCast,hm]
  by_cases hf:64≤t.net.length
  ·rw [if_pos hf,if_neg (by decide)]
   exact h0.doubleFull hb hj hf
  ·rw [if_neg hf,if_pos rfl]
   exact h0.double hm (by omega)
theorem TierAt.entriesA (h:TierAt own τ w bt b t) (hb:b≤1000000000000) {n:Int} :
    Calls Tryz.prog 35 #[.pointer (some ⟨bt,0,none⟩),.int .i64 n] w fun r w'=>∃ v,r= .returned (.tuple #[v,.int .i64 (entE t n)])∧Turn nO w w'∧w'.ownsRow w.heap.size 66 5 v (entS t n).length (entS t n).flatten:=by
 have hl:=h.lenC
 obtain ⟨g,s,L,S,F,R,Q⟩:=h.is
 unfold entS entE
 rcases cacheB_cases hl n with ⟨hc,hi⟩|⟨hc,m,rfl,m0,m1⟩
 ·rw [if_pos hc,if_pos hc]
  rw [R.c] at hi
  refine (Entries_node own τ bt g s n w L S.len.2 hi).mono ?_
  rintro e w' ⟨rfl,rfl⟩
  exact ⟨_,rfl,Turn.refl _ _,World.ownsRow_nil _ _ _ _⟩
 ·rw [if_neg (by rw [hc];decide),if_neg (by rw [hc];decide),Int.toNat_natCast]
  rw [R.c] at m1
  have hlen:=S.len
  have hu:=S.used m
  have he:=S.entries
  have hck:=S.clk m
  refine (Entries_any own τ bt g s m w L (S.fine F (by omega)) (by omega) (by omega) (inB_cache m0 m1) (by omega) (fun k hk=>Nat.le_trans (hu.2 k hk) (by decide)) ⟨by decide,by decide,by decide,hck.1,hck.2⟩).mono ?_
  rintro e w' ⟨v,l,rfl,T,O,rfl⟩
  refine ⟨v,rfl,T,?_⟩
  have e1:(t.cac m).ents.map (seenL t m)=((s.used m).map (s.seeAt m)).map seeL:=by
    rw [R.ents m m1,List.map_map,List.map_map]
    refine List.map_congr_left (fun k hk=>?_)
    show seenL t m (keptOf k ((s.entry m k).getD noEnt))=seeL (s.seeAt m k)
    unfold seenL
    rw [R.age m1]
    rfl
  rw [e1,List.length_map]
  exact O
end
section
open Go.RowKit
open Tier (Mes Ans Conf St Kept Wtr Ftc Cac)
variable {s:PS} {t:St} {b:Nat}
theorem Ref.ftMem (R:Ref s t) {n:Nat} (hn:n<t.caches.length) {f:Ftc} (hf:f∈(t.cac n).fts):∃ p∈s.fts,p.1.1=n∧f=ftcOf p:=by
  have:=(R.fts n (by rw [← R.len];exact hn)).mem_iff.2 hf
  unfold ftsOf at this
  obtain ⟨p,hp,rfl⟩:=List.mem_map.1 this
  obtain ⟨h1,h2⟩:=List.mem_filter.1 hp
  exact ⟨p,h1,of_decide_eq_true h2,rfl⟩
theorem pair_same {α:Type} {r:α→Int}:∀ {l:List α},l.Pairwise (fun a b=>r a≠r b)→∀ {a b:α},a∈l→b∈l→r a=r b→a=b
  | [],_,_,_,h,_,_=>by cases h
  | x :: l,h,a,b,ha,hb,e=>by
    obtain ⟨h1,h2⟩:=List.pairwise_cons.1 h
    rcases List.mem_cons.1 ha with rfl|ha'
    ·rcases List.mem_cons.1 hb with rfl|hb'
     ·rfl
     ·exact absurd e (h1 b hb')
    ·rcases List.mem_cons.1 hb with rfl|hb'
     ·exact absurd e.symm (h1 a ha')
     ·exact pair_same h2 ha' hb' e
theorem ffine_of (S:s.Sane) (R:Ref s t):FFine t:=by
  refine ⟨by rw [R.serial];exact S.serial,fun n f hn hf=>?_,fun n m f f' hn hm hf hf' e=>?_,fun n hn=>?_⟩
  ·obtain ⟨p,hp,_,rfl⟩:=R.ftMem hn hf
   have:=S.fts p hp
   rw [R.serial]
   exact ⟨this.2.2.1,this.2.2.2.1⟩
  ·obtain ⟨p,hp,h1,rfl⟩:=R.ftMem hn hf
   obtain ⟨q,hq,h2,rfl⟩:=R.ftMem hm hf'
   have:p=q:=pair_same (r:=fun p:(Nat × ByteArray) × Ft=>p.2.serial) S.apart hp hq e
   subst this
   exact ⟨h1.symm.trans h2,rfl⟩
  ·refine ((R.fts n (by rw [← R.len];exact hn)).pairwise_iff (fun h=>fun e=>h e.symm)).1 ?_
   unfold ftsOf
   rw [List.pairwise_map]
   exact S.apart.sublist List.filter_sublist
theorem kfine_of (S:s.Sane) (R:Ref s t) {n:Nat} (hn:n<t.caches.length) {e:Kept} (he:e∈(t.cac n).ents):KFine t n e:=by
  have hn':n<s.c.parents.length:=by rw [← R.len];exact hn
  rw [R.ents n hn'] at he
  obtain ⟨k,hk,rfl⟩:=List.mem_map.1 he
  obtain ⟨e,hee⟩:=Option.isSome_iff_exists.1 ((R.has n hn' k).1 hk)
  have hkt:s.kept n k=keptOf k e:=by unfold PS.kept;rw [hee];rfl
  rw [hkt]
  have:=(S.ents _ (aget_mem hee)).1
  have hc:=R.clock n hn'
  refine ⟨⟨this.b0,this.b1⟩,⟨this.s0,by rw [hc];exact this.s1⟩,by rw [hc];exact this.c1,by rw [R.c];exact S.drift⟩
theorem cfine_of (S:s.Sane) (R:Ref s t) {n:Nat} (hn:n<t.caches.length):CFine t n:=by
  have hn':n<s.c.parents.length:=by rw [← R.len];exact hn
  have h1:=R.room n hn'
  have h2:=S.entries
  refine ⟨hn,?_,fun e he=>kfine_of S R hn he,by rw [R.c];omega⟩
  rw [R.ents n hn',List.length_map]
  omega
theorem wfine_of (S:s.Sane) (F:s.Few b) (R:Ref s t) (hb:b≤900000) {n:Nat} (hn:n<t.caches.length):WFine t n:=by
  have hn':n<s.c.parents.length:=by rw [← R.len];exact hn
  refine ⟨cfine_of S R hn,ffine_of S R,by rw [R.len,R.c],by rw [R.serial];have:=F.serial;omega,by rw [R.net];have:=F.net;omega,by rw [R.answers];have:=F.answers;omega,?_,fun f hf=>?_,fun f f' hf hf' e=>?_⟩
  ·rw [← (R.fts n hn').length_eq]
   unfold ftsOf
   rw [List.length_map]
   have:=List.length_filter_le (fun p:(Nat × ByteArray) × Ft=>decide (p.1.1=n)) s.fts
   have:=F.fts
   omega
  ·obtain ⟨p,hp,_,rfl⟩:=R.ftMem hn hf
   have:=S.wl hp
   show (p.2.l.map wtrOf).length<1000000
   rw [List.length_map]
   omega
  ·obtain ⟨p,hp,h1,rfl⟩:=R.ftMem hn hf
   obtain ⟨q,hq,h2,rfl⟩:=R.ftMem hn hf'
   have hk:p.1=q.1:=Prod.ext (h1.trans h2.symm) e
   have:∀ {l:List ((Nat × ByteArray) × Ft)},l.Pairwise (fun p q=>p.1≠q.1)→p∈l→q∈l→p=q:=by
     intro l hl hp hq
     induction l with
     | nil=>cases hp
     | cons x l ih =>
       obtain ⟨a,c⟩:=List.pairwise_cons.1 hl
       rcases List.mem_cons.1 hp with rfl|hp'
       ·rcases List.mem_cons.1 hq with rfl|hq'
        ·rfl
        ·exact absurd hk (a q hq')
       ·rcases List.mem_cons.1 hq with rfl|hq'
        ·exact absurd hk.symm (a p hp')
        ·exact ih c hp' hq'
   rw [this S.keys hp hq]
theorem afine_of (S:s.Sane) (F:s.Few b) (R:Ref s t) (hb:b≤900000) {n:Nat} (hn:n<t.caches.length) {m:Mes} (hm:MesOK s.c m) (hk:m.kind≠1) {f:Ftc} (hf:t.fetch n m.key=some f):AFine t n m f:=by
  have hn':n<s.c.parents.length:=by rw [← R.len];exact hn
  have hc:=R.clock n hn'
  have h1:=S.clk n
  have hfm:f∈(t.cac n).fts:=List.mem_of_find?_eq_some hf
  obtain ⟨p,hp,hpn,rfl⟩:=R.ftMem hn hfm
  have h2:=S.fts p hp
  rw [hpn] at h2
  refine ⟨wfine_of S F R hb hn,⟨hm.age0,by have:=hm.age1;omega⟩,by rw [hc];exact h1,by rw [R.c];exact S.drift,⟨h2.2.2.2.2.1,by rw [hc];exact h2.2.2.2.2.2.1⟩,by rw [R.net];have:=F.net;omega,by rw [R.answers];have:=F.answers;omega,by have:=hm.kinds;omega⟩
theorem dfine_of (S:s.Sane) (F:s.Few b) (R:Ref s t) (Q:RecsOK b s t) (hb:b≤900000) {m:Mes} (hm:MesOK s.c m):DFine t m:=by
  have h0:=hm.to0
  have h1:=hm.to1
  have hn:m.to.toNat<t.caches.length:=by rw [R.len];omega
  have e:m.to=(m.to.toNat:Int):=by omega
  refine ⟨fun hk=>⟨m.to.toNat,e,wfine_of S F R hb hn,fun f hf=>afine_of S F R hb hn hm hk hf⟩,fun hk _=>⟨m.to.toNat,e,wfine_of S F R hb hn⟩,by rw [R.net];have:=F.net;omega,?_,hm.kinds⟩
  have h2:=Q.keys.length_eq
  rw [List.length_map,List.length_map] at h2
  have:=Q.few
  omega
structure Fit (t:St):Prop where
  wf:∀ n:Nat,0<n→n<t.caches.length→WFine t n
  cf:∀ n:Nat,0<n→n<t.caches.length→CFine t n
  df:∀ (j:Nat) (m:Mes),t.net[j]?=some m→DFine (t.taken j) m
  net:t.net.length≤900000
  ans:t.answers.length≤900000
  items:t.items.length≤16
  ver:∀ k,0≤(t.item k).ver∧(t.item k).ver≤900000
theorem TierAt.fit {own:Own} {τ:Nat} {w:World} {bt:Nat} (h:TierAt own τ w bt b t) (hb:b≤900000):Fit t:=by
  obtain ⟨g,s,L,S,F,R,Q⟩:=h.is
  refine ⟨fun n _ hn=>wfine_of S F R hb hn,fun n _ hn=>cfine_of S R hn,fun j m hm=>?_,by rw [R.net];have:=F.net;omega,by rw [R.answers];have:=F.answers;omega,?_,fun k=>?_⟩
  ·rw [R.net] at hm
   exact dfine_of (S.taken j) (F.taken j) (R.taken j) (Q.same rfl rfl) hb (S.net m (List.mem_of_getElem? hm))
  ·have h2:=Q.keys.length_eq
   rw [List.length_map,List.length_map] at h2
   have:=Q.few
   omega
  ·rw [R.items k]
   show 0≤(s.record k).ver∧(s.record k).ver≤900000
   unfold PS.record
   cases hr:aget s.recs k with
   | none=>exact ⟨Int.le_refl _,by show (0:Int)≤900000;decide⟩
   | some rc =>
     have:=Q.ver _ (aget_mem hr)
     show 0≤rc.ver∧rc.ver≤900000
     have h3:1≤rc.ver∧rc.ver≤b:=this
     omega
end
section
open Go.RowKit
open Tier (Mes Ans Conf St)
variable {own own':Own} {τ:Nat} {w w' w0:World}
structure Reads (w:World) (b n m:Nat) (X:List Value):Prop where
  lt:b<w.heap.size
  rd:∀ j i,j<n→i<m→w.cell? ⟨b,j*m+i,none⟩=X[i]?
theorem Reads.heap {b n m:Nat} {X:List Value} (h:Reads w b n m X) (he:w'.heap[b]?=w.heap[b]?) (hs:w.heap.size≤w'.heap.size):Reads w' b n m X :=
  ⟨Nat.lt_of_lt_of_le h.lt hs,fun j i hj hi=>(World.cell?_of_block he).trans (h.rd j i hj hi)⟩
structure MarkAt (own:Own) (w:World) (m:Nat) (v:Value) (X:List Value):Prop where
  is:∃ a n c,v= .slice a n c∧n≤1000000000∧(n=0∨∃ b,a=some ⟨b,0,none⟩∧own b=none∧Reads w b n m X)
theorem MarkAt.frame {m:Nat} {v:Value} {X:List Value} (h:MarkAt own w m v X) (hs:w.heap.size≤w'.heap.size) (hf:∀ k,k<w.heap.size→own k=none→w'.heap[k]?=w.heap[k]?∧own' k=none):MarkAt own' w' m v X:=by
  obtain ⟨a,n,c,rfl,hn,h⟩:=h.is
  refine ⟨a,n,c,rfl,hn,h.imp id ?_⟩
  rintro ⟨b,rfl,hb,R⟩
  obtain ⟨h1,h2⟩:=hf b R.lt hb
  exact ⟨b,rfl,h2,R.heap h1 hs⟩
theorem Step.keeps (S:Step τ own own' w w'):∀ k,k<w.heap.size→own k=none→w'.heap[k]?=w.heap[k]?∧own' k=none :=
  fun k hk ho=>⟨S.turn.block k hk (fun ⟨x,hx⟩=>by rw [ho] at hx;cases hx),S.free hk ho⟩
theorem Step.other {τ':Nat} (S:Step τ own own' w w') (hne:τ'≠τ):∀ k,k<w.heap.size→Mine own τ' k→w'.heap[k]?=w.heap[k]?∧own' k=own k:=fun k hk ⟨x,hx⟩=>by
  have hm:¬ Mine own τ k:=fun ⟨y,hy⟩=>by rw [hx] at hy;cases hy;exact hne rfl
  exact ⟨S.turn.block k hk hm,(S.same k hk).resolve_right (fun h=>hm h.1)⟩
structure PairD where
  bt:Nat
  br:Nat
  t:St
def pairL (p:PairD):List Value:=[.pointer (some ⟨p.bt,0,none⟩),.pointer (some ⟨p.br,0,none⟩)]
structure LG where
  lv:Value
  nv:Value
  av:Value
  ev:Value
  ln:List Value
  la:List Value
  le:List Value
def lawC (g:LG):Array Value:=#[g.lv,g.nv,g.av,g.ev]
def mkI (k:Nat):Int:=-1000 - ((k / 4:Nat):Int)
def e8:ByteArray:=⟨#[]⟩
def xM (k:Nat):List Value:=[.int .i64 (mkI k),.int .i64 0,.int .i64 0,.string e8,.int .i64 0,.int .i64 0,.int .i64 0,.int .i64 0,.string e8]
def xA (k:Nat):List Value:=[.int .i64 0,.int .i64 0,.int .i64 (mkI k),.int .i64 0,.int .i64 0,.string e8,.int .i64 0]
def xE (k:Nat):List Value:=[.string e8,.int .i64 (mkI k),.int .i64 0,.string e8,.int .i64 0]
theorem mkI_four {k j:Nat} (h:k % 4=0) (hj:j<4):mkI (k+j)=mkI k:=by
  unfold mkI
  rw [show (k+j) / 4=k / 4 by omega]
theorem xM_four {k j:Nat} (h:k % 4=0) (hj:j<4):xM (k+j)=xM k:=by unfold xM;rw [mkI_four h hj]
theorem xA_four {k j:Nat} (h:k % 4=0) (hj:j<4):xA (k+j)=xA k:=by unfold xA;rw [mkI_four h hj]
theorem xE_four {k j:Nat} (h:k % 4=0) (hj:j<4):xE (k+j)=xE k:=by unfold xE;rw [mkI_four h hj]
structure Lists (own:Own) (x:Nat) (w:World) (e m:Nat) (v:Value) (l:List Value) (X:Nat→List Value):Prop where
  row:Row own 0 x w e 1 v (l.map fun u=>[u])
  four:l.length % 4=0
  marks:∀ k u,l[k]?=some u→MarkAt own w m u (X k)
theorem Lists.frame {x e m:Nat} {v:Value} {l:List Value} {X:Nat→List Value} (h:Lists own x w e m v l X) (hs:w.heap.size≤w'.heap.size) (h0:∀ k,k<w.heap.size→own k=some (0,x)→w'.heap[k]?=w.heap[k]?∧own' k=own k) (hf:∀ k,k<w.heap.size→own k=none→w'.heap[k]?=w.heap[k]?∧own' k=none):Lists own' x w' e m v l X :=
  ⟨h.row.frame h0,h.four,fun k u hk=>(h.marks k u hk).frame hs hf⟩
structure LawAt (own:Own) (w0 w:World) (bw B:Nat) (g:LG) (ps:List PairD):Prop where
  top:∀ k,w.heap.size≤k→own k=none
  out:Turn nO w0 w
  low:∀ k,k<w0.heap.size→own k=none
  block:w.heap[bw]?=some (.cells (lawC g) 31 (0,0))
  blockO:own bw=some (0,1)
  prs:Row own 0 2 w 54 2 g.lv (ps.map pairL)
  net:Lists own 3 w 59 9 g.nv g.ln xM
  ans:Lists own 4 w 61 7 g.av g.la xA
  ent:Lists own 5 w 64 5 g.ev g.le xE
  few:ps.length≤B∧g.ln.length≤B∧g.la.length≤B∧g.le.length≤B
  tier:∀ i p,ps[i]?=some p→TierAt own (2*i+1) w p.bt B p.t
  refs:∀ i p,ps[i]?=some p→∃ h,RLies own (2*i+2) w p.br h p.t
variable {bw B B':Nat} {g g':LG} {ps ps':List PairD}
theorem LawAt.lt (L:LawAt own w0 w bw B g ps):bw<w.heap.size:=heap_lt L.block
theorem LawAt.more (L:LawAt own w0 w bw B g ps) (T:Turn nO w w') (ho:∀ k,k<w.heap.size→own' k=own k) (ht:∀ k,w'.heap.size≤k→own' k=none):LawAt own' w0 w' bw B g ps:=by
  have h1:∀ {x:Nat},∀ k,k<w.heap.size→own k=some (0,x)→w'.heap[k]?=w.heap[k]?∧own' k=own k:=fun k hk _=>⟨T.block k hk id,ho k hk⟩
  have h2:∀ k,k<w.heap.size→own k=none→w'.heap[k]?=w.heap[k]?∧own' k=none:=fun k hk hn=>⟨T.block k hk id,(ho k hk).trans hn⟩
  have h3:∀ {t:Nat},∀ k,k<w.heap.size→Mine own t k→w'.heap[k]?=w.heap[k]?∧own' k=own k:=fun k hk _=>⟨T.block k hk id,ho k hk⟩
  refine ⟨ht,L.out.trans T (fun _ _ h=>h),fun k hk=>(ho k (Nat.lt_of_lt_of_le hk L.out.size)).trans (L.low k hk),(T.block _ L.lt id).trans L.block,(ho _ L.lt).trans L.blockO,L.prs.frame h1,L.net.frame T.size h1 h2,L.ans.frame T.size h1 h2,L.ent.frame T.size h1 h2,L.few,fun i p hp=>(L.tier i p hp).frame h3 ht,fun i p hp=>?_⟩
  obtain ⟨h,hR⟩:=L.refs i p hp
  exact ⟨h,hR.frame h3 ht⟩
theorem LawAt.turn (L:LawAt own w0 w bw B g ps) (T:Turn nO w w'):LawAt own w0 w' bw B g ps :=
  L.more T (fun _ _=>rfl) (fun k hk=>L.top k (Nat.le_trans T.size hk))
theorem LawAt.mono (L:LawAt own w0 w bw B g ps) (h:B≤B'):LawAt own w0 w bw B' g ps :=
  ⟨L.top,L.out,L.low,L.block,L.blockO,L.prs,L.net,L.ans,L.ent,⟨Nat.le_trans L.few.1 h,Nat.le_trans L.few.2.1 h,Nat.le_trans L.few.2.2.1 h,Nat.le_trans L.few.2.2.2 h⟩,fun i p hp=>(L.tier i p hp).mono h,L.refs⟩
structure Both (own:Own) (τ1 τ2:Nat) (w:World) (bt br b:Nat) (t:St) (own':Own) (w':World):Prop where
  mid:∃ own1 w1,Step τ1 own own1 w w1∧Step τ2 own1 own' w1 w'
  tier:TierAt own' τ1 w' bt b t
  refs:∃ h,RLies own' τ2 w' br h t
theorem Both.keeps {τ1 τ2 bt br b:Nat} {t:St} (h:Both own τ1 τ2 w bt br b t own' w'):w.heap.size≤w'.heap.size∧∀ k,k<w.heap.size→own k=none→w'.heap[k]?=w.heap[k]?∧own' k=none:=by
  obtain ⟨own1,w1,S1,S2⟩:=h.mid
  refine ⟨Nat.le_trans S1.turn.size S2.turn.size,fun k hk ho=>?_⟩
  obtain ⟨a,b⟩:=S1.keeps k hk ho
  obtain ⟨c,d⟩:=S2.keeps k (Nat.lt_of_lt_of_le hk S1.turn.size) b
  exact ⟨c.trans a,d⟩
theorem Both.other {τ1 τ2 bt br b τ':Nat} {t:St} (h:Both own τ1 τ2 w bt br b t own' w') (h1:τ'≠τ1) (h2:τ'≠τ2):∀ k,k<w.heap.size→Mine own τ' k→w'.heap[k]?=w.heap[k]?∧own' k=own k:=by
  obtain ⟨own1,w1,S1,S2⟩:=h.mid
  intro k hk hm
  obtain ⟨a,b⟩:=S1.other h1 k hk hm
  obtain ⟨c,d⟩:=S2.other h2 k (Nat.lt_of_lt_of_le hk S1.turn.size) (by obtain ⟨x,hx⟩:=hm;exact ⟨x,b.trans hx⟩)
  exact ⟨c.trans a,d.trans b⟩
theorem LawAt.frame2 (L:LawAt own w0 w bw B g ps) {i:Nat} {p:PairD} (hp:ps[i]?=some p) {t:St} (T:Turn (fun k=>own k≠none) w w') (hn:∀ k,k<w.heap.size→own k=none→own' k=none)
    (ho:∀ τ',τ'≠2*i+1→τ'≠2*i+2→∀ k,k<w.heap.size→Mine own τ' k→w'.heap[k]?=w.heap[k]?∧own' k=own k) (ht:TierAt own' (2*i+1) w' p.bt B' t) (hr:∃ h,RLies own' (2*i+2) w' p.br h t) (hB:B≤B'):LawAt own' w0 w' bw B' g (ps.set i ⟨p.bt,p.br,t⟩):=by
 have hs:=T.size
 have hk:∀ k,k<w.heap.size→own k=none→w'.heap[k]?=w.heap[k]?∧own' k=none:=fun k hk hx=>⟨T.block k hk (fun h=>h hx),hn k hk hx⟩
 have htop:=ht.top
 have h0:∀ {x:Nat},∀ k,k<w.heap.size→own k=some (0,x)→w'.heap[k]?=w.heap[k]?∧own' k=own k:=fun k hk hx=>ho 0 (by omega) (by omega) k hk ⟨_,hx⟩
 have hpl:(ps.set i ⟨p.bt,p.br,t⟩).map pairL=ps.map pairL:=by
   rw [List.map_set]
   have:(ps.map pairL)[i]?=some (pairL ⟨p.bt,p.br,t⟩):=by rw [List.getElem?_map,hp];rfl
   obtain ⟨hi,he⟩:=List.getElem?_eq_some_iff.1 this
   rw [← he,List.set_getElem_self]
 have hset:∀ {j:Nat} {q:PairD},(ps.set i ⟨p.bt,p.br,t⟩)[j]?=some q→(j=i∧q=⟨p.bt,p.br,t⟩)∨(j≠i∧ps[j]?=some q):=fun {j q} hq=>by
   rw [List.getElem?_set] at hq
   by_cases e:i=j
   ·rw [if_pos e] at hq
    split at hq
    ·exact Or.inl ⟨e.symm,(Option.some.inj hq).symm⟩
    ·cases hq
   ·rw [if_neg e] at hq
    exact Or.inr ⟨fun h=>e h.symm,hq⟩
 obtain ⟨hb1,hb2⟩:=h0 bw L.lt L.blockO
 refine ⟨htop,⟨T.os.trans L.out.os,T.tape.trans L.out.tape,T.output.trans L.out.output,Nat.le_trans L.out.size hs,fun k hkk _=>(hk k (Nat.lt_of_lt_of_le hkk L.out.size) (L.low k hkk)).1.trans (L.out.block k hkk id)⟩,fun k hkk=>(hk k (Nat.lt_of_lt_of_le hkk L.out.size) (L.low k hkk)).2,hb1.trans L.block,hb2.trans L.blockO,by rw [hpl];exact L.prs.frame h0,L.net.frame hs h0 hk,L.ans.frame hs h0 hk,L.ent.frame hs h0 hk,?_,fun j q hq=>?_,fun j q hq=>?_⟩
 ·rw [List.length_set]
  have:=L.few
  omega
 ·rcases hset hq with ⟨rfl,rfl⟩|⟨hne,hq⟩
  ·exact ht
  ·exact ((L.tier j q hq).frame (ho _ (by omega) (by omega)) htop).mono hB
 ·rcases hset hq with ⟨rfl,rfl⟩|⟨hne,hq⟩
  ·exact hr
  ·obtain ⟨r,hr⟩:=L.refs j q hq
   exact ⟨r,hr.frame (ho _ (by omega) (by omega)) htop⟩
theorem Both.free {τ1 τ2 bt br b:Nat} {t:St} (h:Both own τ1 τ2 w bt br b t own' w'):Turn (fun k=>own k≠none) w w':=by
  have hK:=h.keeps.2
  obtain ⟨own1,w1,S1,S2⟩:=h.mid
  exact ⟨S2.turn.os.trans S1.turn.os,S2.turn.tape.trans S1.turn.tape,S2.turn.output.trans S1.turn.output,Nat.le_trans S1.turn.size S2.turn.size,fun k hk hm=>(hK k hk (Classical.not_not.1 hm)).1⟩
theorem LawAt.both (L:LawAt own w0 w bw B g ps) {i:Nat} {p:PairD} (hp:ps[i]?=some p) {t:St} (h:Both own (2*i+1) (2*i+2) w p.bt p.br B' t own' w') (hB:B≤B'):LawAt own' w0 w' bw B' g (ps.set i ⟨p.bt,p.br,t⟩) :=
  L.frame2 hp h.free (fun k hk hn=>(h.keeps.2 k hk hn).2) (fun _ h1 h2=>h.other h1 h2) h.tier h.refs hB
theorem LawAt.loosed (L:LawAt own w0 w bw B g ps) {i:Nat} {p:PairD} (hp:ps[i]?=some p) {t:St} {w1:World} {v:Value} (h:Both own (2*i+1) (2*i+2) w p.bt p.br B t own' w1)
    (hv:∀ k,v.ownBlock=some k→own' k=none∧(k<w.heap.size→Mine own (2*i+1) k)) (T:Turn (fun k=>v.ownBlock=some k) w1 w'):LawAt own' w0 w' bw B g (ps.set i ⟨p.bt,p.br,t⟩):=by
 have hm:∀ {τ':Nat},∀ k,k<w1.heap.size→Mine own' τ' k→w'.heap[k]?=w1.heap[k]?∧own' k=own' k:=fun k hk ⟨x,hx⟩=>⟨T.block k hk (fun e=>by rw [(hv k e).1] at hx;cases hx),rfl⟩
 have htop:∀ k,w'.heap.size≤k→own' k=none:=fun k hk=>h.tier.top k (Nat.le_trans T.size hk)
 have hsz:=h.keeps.1
 refine L.frame2 hp (h.free.trans T (fun k hk e=>?_)) (fun k hk hn=>(h.keeps.2 k hk hn).2) (fun τ' h1 h2 k hk hx=>?_) (h.tier.frame hm htop) ?_ (Nat.le_refl _)
 ·obtain ⟨x,hx⟩:=(hv k e).2 hk
  rw [hx]
  exact fun h=>by cases h
 ·obtain ⟨a,b⟩:=h.other h1 h2 k hk hx
  refine ⟨(T.block k (Nat.lt_of_lt_of_le hk hsz) (fun e=>?_)).trans a,b⟩
  obtain ⟨x,hx⟩:=hx
  obtain ⟨y,hy⟩:=(hv k e).2 hk
  rw [hx] at hy
  cases hy
  exact h1 rfl
 ·obtain ⟨r,hr⟩:=h.refs
  exact ⟨r,hr.frame hm htop⟩
structure Grew (own:Own) (w:World) (bw x:Nat) (old v:Value) (w':World):Prop where
  lab:∀ k,old.ownBlock=some k→own k=some (0,x)
  turn:Turn (fun k=>k=bw∨old.ownBlock=some k) w w'
  new:∀ k,v.ownBlock=some k→(old.ownBlock=some k∨w.heap.size≤k)∧k<w'.heap.size
theorem Grew.keeps {x:Nat} {old v:Value} (h:Grew own w bw x old v w') (hb:own bw=some (0,1)) :
    (∀ k,k<w.heap.size→(∀ z,own k=some (0,z)→z≠1∧z≠x)→w'.heap[k]?=w.heap[k]?∧putV own v (0,x) k=own k):=by
 intro k hk hz
 have hne:k≠bw:=fun e=>(hz 1 (by rw [e];exact hb)).1 rfl
 have hno:¬ old.ownBlock=some k:=fun e=>(hz x (h.lab k e)).2 rfl
 refine ⟨h.turn.block k hk (fun e=>e.elim hne hno),?_⟩
 unfold putV
 rw [if_neg]
 intro e
 exact (h.new k e).1.elim hno (fun e=>by omega)
theorem LawAt.grew (L:LawAt own w0 w bw B g ps) {x:Nat} {old v:Value} (h:Grew own w bw x old v w') (hx:x=2∨x=3∨x=4∨x=5) :
    (∀ k,w'.heap.size≤k→putV own v (0,x) k=none)∧Turn nO w0 w'∧(∀ k,k<w0.heap.size→putV own v (0,x) k=none)∧putV own v (0,x) bw=some (0,1) ∧
    (∀ {y:Nat},y≠1→y≠x→∀ k,k<w.heap.size→own k=some (0,y)→w'.heap[k]?=w.heap[k]?∧putV own v (0,x) k=own k) ∧
    (∀ k,k<w.heap.size→own k=none→w'.heap[k]?=w.heap[k]?∧putV own v (0,x) k=none) ∧
    (∀ {t:Nat},t≠0→∀ k,k<w.heap.size→Mine own t k→w'.heap[k]?=w.heap[k]?∧putV own v (0,x) k=own k):=by
 have hK:=h.keeps L.blockO
 have hN:∀ k,k<w.heap.size→own k=none→w'.heap[k]?=w.heap[k]?∧putV own v (0,x) k=none:=fun k hk ho=>by
   obtain ⟨a,b⟩:=hK k hk (fun z hz=>by rw [ho] at hz;cases hz)
   exact ⟨a,b.trans ho⟩
 refine ⟨fun k hk=>?_,?_,fun k hk=>(hN k (Nat.lt_of_lt_of_le hk L.out.size) (L.low k hk)).2,?_,fun {y} h1 h2 k hk ho=>hK k hk (fun z hz=>by rw [ho] at hz;cases hz;exact ⟨h1,h2⟩),hN,fun {t} ht k hk ⟨y,hy⟩=>hK k hk (fun z hz=>by rw [hy] at hz;cases hz;exact absurd rfl ht)⟩
 ·unfold putV
  rw [if_neg]
  ·exact L.top k (Nat.le_trans h.turn.size hk)
  ·intro e
   have:=(h.new k e).2
   omega
 ·refine ⟨h.turn.os.trans L.out.os,h.turn.tape.trans L.out.tape,h.turn.output.trans L.out.output,Nat.le_trans L.out.size h.turn.size,fun k hk _=>?_⟩
  exact (hN k (Nat.lt_of_lt_of_le hk L.out.size) (L.low k hk)).1.trans (L.out.block k hk id)
 ·unfold putV
  rw [if_neg,L.blockO]
  intro e
  rcases (h.new bw e).1 with e|e
  ·have:=h.lab bw e
   rw [L.blockO] at this
   cases this
   omega
  ·have:=L.lt
   omega
theorem LawAt.appended (L:LawAt own w0 w bw B g ps) {x n cap gb:Nat} {old:Value} {w1:World} (hold:∀ k,old.ownBlock=some k→own k=some (0,x)) (hx:x≠1) (hgrow:w.grownBy w1 old.ownBlock) (hat:old.ownBlock=some gb∨gb=w.heap.size) (hlt:gb<w1.heap.size) (i:Nat) (u:Value) :
    Grew own w bw x old (.slice (some ⟨gb,0,none⟩) n cap) (w1.setCell ⟨bw,i,none⟩ u)∧gb≠bw∧(w1.setCell ⟨bw,i,none⟩ u).heap[bw]?=some (.cells ((lawC g).setIfInBounds i u) 31 (0,0))∧(w1.setCell ⟨bw,i,none⟩ u).heap[gb]?=w1.heap[gb]?:=by
 have hno:¬ some bw=old.ownBlock:=fun e=>by
   have:=hold bw e.symm
   rw [L.blockO] at this
   cases this
   exact hx rfl
 have hne:gb≠bw:=by
   rcases hat with e|e
   ·exact fun h=>hno (by rw [← h];exact e.symm)
   ·have:=L.lt;omega
 refine ⟨⟨hold,((Turn.grown hgrow).mono (fun k _ e=>Or.inr e.symm)).sS (Or.inr (Or.inl rfl)),fun k hk=>?_⟩,hne,heap_set (i:=i) ((hgrow.block bw L.lt hno).trans L.block),hSO hne⟩
 have:gb=k:=Option.some.inj hk
 subst this
 refine ⟨hat.imp id (fun e=>by omega),?_⟩
 have:(w1.setCell ⟨bw,i,none⟩ u).heap.size=w1.heap.size:=by simp
 omega
theorem Lists.push {x e m:Nat} {v v':Value} {l:List Value} {X:Nat→List Value} (h:Lists own x w e m v l X) {a b c d:Value} (hX:∀ j,j<4→X (l.length+j)=X l.length)
    (hs:w.heap.size≤w'.heap.size) (hR:w'.ownsRow 0 e 1 v' (l.length+4) (l ++ [a,b,c,d])) (hf:∀ k,k<w.heap.size→own k=none→w'.heap[k]?=w.heap[k]?∧putV own v' (0,x) k=none)
    (ha:MarkAt own w m a (X l.length)) (hb:MarkAt own w m b (X l.length)) (hc:MarkAt own w m c (X l.length)) (hd:MarkAt own w m d (X l.length)):Lists (putV own v' (0,x)) x w' e m v' (l ++ [a,b,c,d]) X:=by
 have hfl:∀ q:List Value,(q.map fun u=>[u]).flatten=q:=fun q=>by induction q with
   | nil=>rfl
   | cons y q ih=>simp [ih]
 refine ⟨⟨?_,fun k hk=>by unfold putV;rw [if_pos hk]⟩,by rw [List.length_append];have:=h.four;show (l.length+4) % 4=0;omega,fun k u hu=>?_⟩
 ·rw [hfl,List.length_map,List.length_append]
  exact hR
 ·by_cases hk:k<l.length
  ·rw [List.getElem?_append_left hk] at hu
   exact (h.marks k u hu).frame hs hf
  ·rw [List.getElem?_append_right (by omega)] at hu
   obtain ⟨j,rfl⟩:∃ j,k=l.length+j:=⟨k - l.length,by omega⟩
   rw [show l.length+j - l.length=j by omega] at hu
   have hj:j<4:=(List.getElem?_eq_some_iff.1 hu).1
   rw [hX j hj]
   match j,hj,hu with
   | 0,_,hu=>cases hu;exact ha.frame hs hf
   | 1,_,hu=>cases hu;exact hb.frame hs hf
   | 2,_,hu=>cases hu;exact hc.frame hs hf
   | 3,_,hu=>cases hu;exact hd.frame hs hf
theorem LawAt.pushNet (L:LawAt own w0 w bw B g ps) {v:Value} {a b c d:Value} (h:Grew own w bw 3 g.nv v w') (hbk:w'.heap[bw]?=some (.cells #[g.lv,v,g.av,g.ev] 31 (0,0)))
    (hR:w'.ownsRow 0 59 1 v (g.ln.length+4) (g.ln ++ [a,b,c,d])) (ha:MarkAt own w 9 a (xM g.ln.length)) (hb:MarkAt own w 9 b (xM g.ln.length)) (hc:MarkAt own w 9 c (xM g.ln.length)) (hd:MarkAt own w 9 d (xM g.ln.length)) :
    LawAt (putV own v (0,3)) w0 w' bw (B+5) { g with nv:=v,ln:=g.ln ++ [a,b,c,d] } ps:=by
 obtain ⟨h1,h2,h3,h4,h5,h6,h7⟩:=L.grew h (by omega)
 refine ⟨h1,h2,h3,hbk,h4,L.prs.frame (h5 (by decide) (by decide)),L.net.push (fun j hj=>xM_four L.net.four hj) h.turn.size hR h6 ha hb hc hd,L.ans.frame h.turn.size (h5 (by decide) (by decide)) h6,L.ent.frame h.turn.size (h5 (by decide) (by decide)) h6,?_,fun i p hp=>((L.tier i p hp).frame (h7 (by omega)) h1).mono (by omega),fun i p hp=>?_⟩
 ·have:=L.few
  refine ⟨by omega,?_,by show g.la.length≤_;omega,by show g.le.length≤_;omega⟩
  show (g.ln ++ [a,b,c,d]).length≤_
  rw [List.length_append]
  show g.ln.length+4≤_
  omega
 ·obtain ⟨r,hr⟩:=L.refs i p hp
  exact ⟨r,hr.frame (h7 (by omega)) h1⟩
theorem LawAt.pushAns (L:LawAt own w0 w bw B g ps) {v:Value} {a b c d:Value} (h:Grew own w bw 4 g.av v w') (hbk:w'.heap[bw]?=some (.cells #[g.lv,g.nv,v,g.ev] 31 (0,0)))
    (hR:w'.ownsRow 0 61 1 v (g.la.length+4) (g.la ++ [a,b,c,d])) (ha:MarkAt own w 7 a (xA g.la.length)) (hb:MarkAt own w 7 b (xA g.la.length)) (hc:MarkAt own w 7 c (xA g.la.length)) (hd:MarkAt own w 7 d (xA g.la.length)) :
    LawAt (putV own v (0,4)) w0 w' bw (B+5) { g with av:=v,la:=g.la ++ [a,b,c,d] } ps:=by
 obtain ⟨h1,h2,h3,h4,h5,h6,h7⟩:=L.grew h (by omega)
 refine ⟨h1,h2,h3,hbk,h4,L.prs.frame (h5 (by decide) (by decide)),L.net.frame h.turn.size (h5 (by decide) (by decide)) h6,L.ans.push (fun j hj=>xA_four L.ans.four hj) h.turn.size hR h6 ha hb hc hd,L.ent.frame h.turn.size (h5 (by decide) (by decide)) h6,?_,fun i p hp=>((L.tier i p hp).frame (h7 (by omega)) h1).mono (by omega),fun i p hp=>?_⟩
 ·have:=L.few
  refine ⟨by omega,by show g.ln.length≤_;omega,?_,by show g.le.length≤_;omega⟩
  show (g.la ++ [a,b,c,d]).length≤_
  rw [List.length_append]
  show g.la.length+4≤_
  omega
 ·obtain ⟨r,hr⟩:=L.refs i p hp
  exact ⟨r,hr.frame (h7 (by omega)) h1⟩
theorem LawAt.pushEnt (L:LawAt own w0 w bw B g ps) {v:Value} {a b c d:Value} (h:Grew own w bw 5 g.ev v w') (hbk:w'.heap[bw]?=some (.cells #[g.lv,g.nv,g.av,v] 31 (0,0)))
    (hR:w'.ownsRow 0 64 1 v (g.le.length+4) (g.le ++ [a,b,c,d])) (ha:MarkAt own w 5 a (xE g.le.length)) (hb:MarkAt own w 5 b (xE g.le.length)) (hc:MarkAt own w 5 c (xE g.le.length)) (hd:MarkAt own w 5 d (xE g.le.length)) :
    LawAt (putV own v (0,5)) w0 w' bw (B+5) { g with ev:=v,le:=g.le ++ [a,b,c,d] } ps:=by
 obtain ⟨h1,h2,h3,h4,h5,h6,h7⟩:=L.grew h (by omega)
 refine ⟨h1,h2,h3,hbk,h4,L.prs.frame (h5 (by decide) (by decide)),L.net.frame h.turn.size (h5 (by decide) (by decide)) h6,L.ans.frame h.turn.size (h5 (by decide) (by decide)) h6,L.ent.push (fun j hj=>xE_four L.ent.four hj) h.turn.size hR h6 ha hb hc hd,?_,fun i p hp=>((L.tier i p hp).frame (h7 (by omega)) h1).mono (by omega),fun i p hp=>?_⟩
 ·have:=L.few
  refine ⟨by omega,by show g.ln.length≤_;omega,by show g.la.length≤_;omega,?_⟩
  show (g.le ++ [a,b,c,d]).length≤_
  rw [List.length_append]
  show g.le.length+4≤_
  omega
 ·obtain ⟨r,hr⟩:=L.refs i p hp
  exact ⟨r,hr.frame (h7 (by omega)) h1⟩
theorem LawAt.pushPair (L:LawAt own w0 w bw B g ps) {v:Value} {p:PairD} (h:Grew own w bw 2 g.lv v w') (hbk:w'.heap[bw]?=some (.cells #[v,g.nv,g.av,g.ev] 31 (0,0)))
    (hR:w'.ownsRow 0 54 2 v (ps.length+1) ((ps.map pairL).flatten ++ pairL p)) (ht:TierAt own (2*ps.length+1) w p.bt 0 p.t) (hr:∃ r,RLies own (2*ps.length+2) w p.br r p.t) :
    LawAt (putV own v (0,2)) w0 w' bw (B+5) { g with lv:=v } (ps ++ [p]):=by
 obtain ⟨h1,h2,h3,h4,h5,h6,h7⟩:=L.grew h (by omega)
 have hsp:∀ {i:Nat} {q:PairD},(ps ++ [p])[i]?=some q→ps[i]?=some q∨(i=ps.length∧q=p):=fun {i q} hq=>by
   by_cases hi:i<ps.length
   ·rw [List.getElem?_append_left hi] at hq;exact Or.inl hq
   ·rw [List.getElem?_append_right (by omega)] at hq
    have:i - ps.length=0:=by
      have:=(List.getElem?_eq_some_iff.1 hq).1
      simp at this
      omega
    rw [this] at hq
    exact Or.inr ⟨by omega,(Option.some.inj hq).symm⟩
 refine ⟨h1,h2,h3,hbk,h4,⟨?_,fun k hk=>by unfold putV;rw [if_pos hk]⟩,L.net.frame h.turn.size (h5 (by decide) (by decide)) h6,L.ans.frame h.turn.size (h5 (by decide) (by decide)) h6,L.ent.frame h.turn.size (h5 (by decide) (by decide)) h6,?_,fun i q hq=>?_,fun i q hq=>?_⟩
 ·rw [List.map_append,List.length_append,List.flatten_append,List.length_map]
  simpa using hR
 ·have:=L.few
  refine ⟨?_,by show g.ln.length≤_;omega,by show g.la.length≤_;omega,by show g.le.length≤_;omega⟩
  rw [List.length_append]
  show ps.length+1≤_
  omega
 ·rcases hsp hq with hq|⟨rfl,rfl⟩
  ·exact ((L.tier i q hq).frame (h7 (by omega)) h1).mono (by omega)
  ·exact (ht.frame (h7 (by omega)) h1).mono (by omega)
 ·rcases hsp hq with hq|⟨rfl,rfl⟩
  ·obtain ⟨r,hr⟩:=L.refs i q hq
   exact ⟨r,hr.frame (h7 (by omega)) h1⟩
  ·obtain ⟨r,hr⟩:=hr
   exact ⟨r,hr.frame (h7 (by omega)) h1⟩
structure LawOn (w0:World) (bw B:Nat) (w':World):Prop where
  is:∃ own g ps,LawAt own w0 w' bw B g ps
end
section
open Go.RowKit
def rep (n:Nat) (X:List Value):List Value:=(List.replicate n X).flatten
theorem rep_len (n:Nat) (X:List Value):(rep n X).length=n*X.length:=by unfold rep;simp
theorem rep_add (n m:Nat) (X:List Value):rep n X ++ rep m X=rep (n+m) X:=by unfold rep;rw [← List.flatten_append,List.replicate_append_replicate]
theorem rep_at (X:List Value) {s:Nat} (hs:X.length=s):∀ (n j i:Nat),j<n→i<s→(rep n X)[j*s+i]?=X[i]?
  | 0,_,_,h,_=>by omega
  | n+1,0,i,_,hi=>by
    unfold rep
    rw [List.replicate_succ,List.flatten_cons,Nat.zero_mul,Nat.zero_add,List.getElem?_append_left (by omega)]
  | n+1,j+1,i,hj,hi=>by
    unfold rep
    rw [List.replicate_succ,List.flatten_cons,List.getElem?_append_right (by rw [hs,Nat.add_mul];omega),show (j+1)*s+i - X.length=j*s+i by rw [hs,Nat.add_mul];omega]
    exact rep_at X hs n j i (by omega) hi
theorem reads_of {w:World} {base e s g cap N:Nat} {X:List Value} (hs:X.length=s) (h:w.ownsRow base e s (.slice (some ⟨g,0,none⟩) N cap) N (rep N X)):Reads w g N s X:=by
  refine ⟨(h.lt g rfl).2,fun j i hj hi=>?_⟩
  have h1:=rep_at X hs N j i hj hi
  have hi':i<X.length:=by omega
  rw [List.getElem?_eq_getElem hi'] at h1 ⊢
  have:=h.cells (g:=g) rfl _ _ h1
  rw [adds,Nat.zero_add] at this
  exact this
section
variable {P:Program} (w:World)
theorem append_keep (t ty:TypeId) (base:Nat) (e:TypeId) (i:TypeInfo) (z:Value) (size bytes:Nat) (ht:P.underlying t=some (.slice e)) (hi:P.info? e=some i) (hz:i.zero=some z)
    (hsize:i.size=size) (hby:i.bytes=bytes) (hzs:z.cells.size=size) (hsz:0<size)
    (v:Value) (n:Nat) (xs:List Value) (hown:w.ownsRow base e size v n xs)
    (ad:Addr) (m c:Nat) (news:List Value) (hl:news.length=m*size) (hnews:∀ j u,news[j]?=some u→w.cell? (ad.add j)=some u) (h1:∀ u∈news,u.oneCell'=true)
    (hm:0<m) (h63:n+m≤maxLen) (hbytes:(n+m)*bytes≤140737488355328) (hbase:base≤w.heap.size) :
    ∃ g cap w',(Builtin.append_ #[t,t] ty #[v,.slice (some ad) m c]).run P w= .ok (.slice (some ⟨g,0,none⟩) (n+m) cap) w' ∧
      w'.ownsRow base e size (.slice (some ⟨g,0,none⟩) (n+m) cap) (n+m) (xs ++ news)∧w.grownBy w' v.ownBlock∧w'.ownsRow base e size v n xs∧(v.ownBlock=some g∨g=w.heap.size)∧∀ k,v.ownBlock=some k→g=k∨w'.heap[k]?=w.heap[k]?:=by
 obtain ⟨g,cap,w',hr,h2,h3,h4,h5⟩:=run_append_lies (P:=P) w t ty base e i z size bytes ht hi hz hsize hby hzs hsz v n xs hown ad m c news hl hnews h1 hm h63 hbytes hbase _ rfl
 suffices h:w'.ownsRow base e size v n xs∧∀ k,v.ownBlock=some k→g=k∨w'.heap[k]?=w.heap[k]? from ⟨g,cap,w',hr,h2,h3,h.1,h4,h.2⟩
 have hown0:=hown
 subst hsize
 subst hby
 rcases hown.2 with ⟨rfl,rfl⟩|⟨g0,cap0,cur,rfl,hb,hg,hnc,hcm,hcs,htake⟩
 ·have hx:xs=[]:=List.eq_nil_of_length_eq_zero (by simpa using hown.1)
  subst hx
  exact ⟨World.ownsRow_nil _ _ _ _,fun k hk=>by simp [Value.ownBlock] at hk⟩
 ·by_cases hroom:n+m≤cap0
  ·have hfit:n*i.size+news.length≤cur.size:=by rw [hl,hcs,← Nat.add_mul];exact Nat.mul_le_mul_right _ hroom
   have hr':=run_append_room (P:=P) w t ty e i ht hi g0 n cap0 cur hg ad m c news hl hnews h1 hroom hfit
   rw [hr'] at hr
   injection hr with e1 e2
   injection e1 with e3 e4 e5
   have hgg:g0=g:=by injection e3 with e3;injection e3
   subst e2
   refine ⟨⟨hown0.1,Or.inr ⟨g0,cap0,_,rfl,hb,setRow_heap w g0 cur _ e _ hg,hnc,hcm,?_,?_⟩⟩,fun k hk=>Or.inl ?_⟩
   ·simp only [List.size_toArray,List.length_append,List.length_take,List.length_drop,Array.length_toList]
    omega
   ·have hlen:(cur.toList.take (n*i.size)).length=n*i.size:=by rw [htake];exact hown0.1
    show (List.take (n*i.size) (cur.toList.take (n*i.size) ++ news ++ cur.toList.drop (n*i.size+news.length)))=xs
    rw [List.append_assoc,List.take_append_of_le_length (by omega),List.take_of_length_le (by omega)]
    exact htake
   ·rw [← hgg];simpa [Value.ownBlock] using hk
  ·have holds:∀ j u,xs[j]?=some u→w.cell? ((⟨g0,0,none⟩:Addr).add j)=some u:=hown0.cells (g:=g0) rfl
   have hr':=run_append_grow (P:=P) w t ty e i z ht hi hz ⟨g0,0,none⟩ n cap0 xs hown0.1 holds ad m c news hl hnews (by omega) (by simp only [maxLen] at h63;omega) (growslice_fits (by omega) hbytes)
   rw [hr'] at hr
   injection hr with e1 e2
   subst e2
   have hk:∀ k,k<w.heap.size→∀ o,(w.drew.alloc o).heap[k]?=w.heap[k]?:=fun k hk o=>heap_alloc_old w.drew o k hk
   refine ⟨⟨hown0.1,Or.inr ⟨g0,cap0,cur,rfl,hb,(hk g0 (heap_lt hg) _).trans hg,hnc,hcm,hcs,htake⟩⟩,fun k hkk=>Or.inr (hk k ?_ _)⟩
   exact (hown0.lt k hkk).2
theorem run_append_marks (t ty:TypeId) (base:Nat) (e:TypeId) (i:TypeInfo) (z:Value) (size bytes:Nat) (ht:P.underlying t=some (.slice e)) (hi:P.info? e=some i) (hz:i.zero=some z)
    (hsize:i.size=size) (hby:i.bytes=bytes) (hzs:z.cells.size=size) (hsz:0<size)
    (v:Value) (n:Nat) (X:List Value) (hX:X.length=size) (hX1:∀ u∈X,u.oneCell'=true) (hown:w.ownsRow base e size v n (rep n X))
    (ad:Addr) (m c:Nat) (hnews:∀ j u,(rep m X)[j]?=some u→w.cell? (ad.add j)=some u)
    (hm:0<m) (h63:n+m≤maxLen) (hbytes:(n+m)*bytes≤140737488355328) (hbase:base≤w.heap.size) :
    ∃ g cap w',(Builtin.append_ #[t,t] ty #[v,.slice (some ad) m c]).run P w= .ok (.slice (some ⟨g,0,none⟩) (n+m) cap) w' ∧
      w'.ownsRow base e size v n (rep n X)∧Turn (fun k=>some k=v.ownBlock) w w'∧Reads w' g (n+m) size X∧(v.ownBlock=some g∨g=w.heap.size)∧∀ b N,N≤n+m→Reads w b N size X→Reads w' b N size X:=by
 obtain ⟨g,cap,w',hr,h2,h3,h4,hat,h5⟩:=append_keep (P:=P) w t ty base e i z size bytes ht hi hz hsize hby hzs hsz v n (rep n X) hown ad m c (rep m X) (by rw [rep_len,hX]) hnews (fun u hu=>by
   unfold rep at hu
   obtain ⟨l,hl,hu⟩:=List.mem_flatten.1 hu
   rw [List.eq_of_mem_replicate hl] at hu
   exact hX1 u hu) hm h63 hbytes hbase
 rw [rep_add] at h2
 have hrd:=reads_of hX h2
 refine ⟨g,cap,w',hr,h4,Turn.grown h3,hrd,hat,fun b N hN hb=>?_⟩
 by_cases he:v.ownBlock=some b
 ·rcases h5 b he with rfl|h5
  ·exact ⟨hrd.lt,fun j i hj hi=>hrd.rd j i (by omega) hi⟩
  ·exact hb.heap h5 h3.size
 ·exact hb.heap (h3.block b hb.lt (fun e=>he e.symm)) h3.size
theorem wp_append_marks {o:Oper} {a:Act} {K:Act→World→Prop} {Q:Exit→Act→World→Prop} (s x:Operand) (t:TypeId)
    (ho:o.op= .call { callee:= .builtin .append,args:=#[s,x],argTypes:=#[t,t] })
    (base:Nat) (e:TypeId) (i:TypeInfo) (z:Value) (size bytes:Nat) (ht:P.underlying t=some (.slice e)) (hi:P.info? e=some i) (hz:i.zero=some z)
    (hsize:i.size=size) (hby:i.bytes=bytes) (hzs:z.cells.size=size) (hsz:0<size)
    (v:Value) (n:Nat) (X:List Value) (hX:X.length=size) (hX1:∀ u∈X,u.oneCell'=true) (hs:a.eval s=v) (hown:w.ownsRow base e size v n (rep n X))
    (ad:Addr) (m c:Nat) (hx:a.eval x= .slice (some ad) m c) (hnews:∀ j u,(rep m X)[j]?=some u→w.cell? (ad.add j)=some u)
    (hm:0<m) (h63:n+m≤maxLen) (hbytes:(n+m)*bytes≤140737488355328) (hbase:base≤w.heap.size)
    (h:∀ g cap w',w'.ownsRow base e size v n (rep n X)→Turn (fun k=>some k=v.ownBlock) w w'→Reads w' g (n+m) size X→(v.ownBlock=some g∨g=w.heap.size)→(∀ b N,N≤n+m→Reads w b N size X→Reads w' b N size X)→K (a.put o.dst (.slice (some ⟨g,0,none⟩) (n+m) cap)) w'):o.wp P a w K Q:=by
 obtain ⟨g,cap,w',hr,h2,h3,h4,h5,h6⟩:=run_append_marks (P:=P) w t o.type base e i z size bytes ht hi hz hsize hby hzs hsz v n X hX hX1 hown ad m c hnews hm h63 hbytes hbase
 unfold Oper.wp execOp
 simp only [ho,resolve,invoke,builtin,Sem.run_bind,Sem.run_pure,Result.andThen_ok,List.map_toArray,List.map_cons,List.map_nil,hs,hx,hr]
 exact h g cap w' h2 h3 h4 h5 h6
theorem wpList_append_marks {ops:Array Oper} {rest:List Oper} {o:Oper} {a:Act} {Q:Exit→Act→World→Prop} (hgd:o.guard=none) (s x:Operand) (t:TypeId)
    (ho:o.op= .call { callee:= .builtin .append,args:=#[s,x],argTypes:=#[t,t] })
    (base:Nat) (e:TypeId) (i:TypeInfo) (z:Value) (size bytes:Nat) (ht:P.underlying t=some (.slice e)) (hi:P.info? e=some i) (hz:i.zero=some z)
    (hsize:i.size=size) (hby:i.bytes=bytes) (hzs:z.cells.size=size) (hsz:0<size)
    (v:Value) (n:Nat) (X:List Value) (hX:X.length=size) (hX1:∀ u∈X,u.oneCell'=true) (hs:a.eval s=v) (hown:w.ownsRow base e size v n (rep n X))
    (ad:Addr) (m c:Nat) (hx:a.eval x= .slice (some ad) m c) (hnews:∀ j u,(rep m X)[j]?=some u→w.cell? (ad.add j)=some u)
    (hm:0<m) (h63:n+m≤maxLen) (hbytes:(n+m)*bytes≤140737488355328) (hbase:base≤w.heap.size)
    (h:∀ g cap w',w'.ownsRow base e size v n (rep n X)→Turn (fun k=>some k=v.ownBlock) w w'→Reads w' g (n+m) size X→(v.ownBlock=some g∨g=w.heap.size)→(∀ b N,N≤n+m→Reads w b N size X→Reads w' b N size X)→wpList P ops Q rest (a.put o.dst (.slice (some ⟨g,0,none⟩) (n+m) cap)) w'):wpList P ops Q (o :: rest) a w :=
 wpList_plain hgd fun _ hK=>wp_append_marks w s x t ho base e i z size bytes ht hi hz hsize hby hzs hsz v n X hX hX1 hs hown ad m c hx hnews hm h63 hbytes hbase fun g cap w' h2 h3 h4 h5 h6=>hK _ _ (h g cap w' h2 h3 h4 h5 h6)
end
end
section
open Go.RowKit
variable {w w':World} {own:Own}
structure Marked (w:World) (e m:Nat) (v:Value) (n r:Nat) (X:List Value):Prop where
  is:∃ xs,w.ownsRow 0 e m v n xs∧∀ j i,j<r→i<m→xs[j*m+i]?=X[i]?
theorem Marked.start {base e m n:Nat} {v:Value} {xs:List Value} (h:w.ownsRow base e m v n xs) (X:List Value):Marked w e m v n 0 X :=
  ⟨xs,owns_base' h (Nat.zero_le _),fun j i hj=>by omega⟩
theorem Marked.turn {M:Nat→Prop} {e m n r:Nat} {v:Value} {X:List Value} (h:Marked w e m v n r X) (T:Turn M w w') (hm:∀ k,v.ownBlock=some k→¬ M k):Marked w' e m v n r X:=by
  obtain ⟨xs,h1,h2⟩:=h.is
  exact ⟨xs,owns_turnR h1 T hm (Nat.le_refl _),h2⟩
theorem Marked.done {e m n:Nat} {v:Value} {X:List Value} (h:Marked w e m v n n X) (hX:X.length=m) (hm:0<m):w.ownsRow 0 e m v n (rep n X):=by
  obtain ⟨xs,h1,h2⟩:=h.is
  have:xs=rep n X:=by
    apply List.ext_getElem?
    intro p
    by_cases hp:p<n*m
    ·have hj:p / m<n:=Nat.div_lt_of_lt_mul (by rw [Nat.mul_comm];exact hp)
     have hi:p % m<m:=Nat.mod_lt _ hm
     have e1:=h2 (p / m) (p % m) hj hi
     have e2:=rep_at X hX n (p / m) (p % m) hj hi
     rw [Nat.div_add_mod'] at e1 e2
     rw [e1,e2]
    ·rw [List.getElem?_eq_none (by rw [h1.1];omega),List.getElem?_eq_none (by rw [rep_len,hX];omega)]
  rw [← this]
  exact h1
def setCs (w:World) (g o:Nat):Nat→List Value→World
  | _,[]=>w
  | k,x :: X=>setCs (w.setCell ⟨g,o+k,none⟩ x) g o (k+1) X
theorem setCs_owns {e m n c g o:Nat}:∀ (X:List Value) (k:Nat) (w:World) (xs:List Value),w.ownsRow 0 e m (.slice (some ⟨g,0,none⟩) n c) n xs →
    ∃ ys,(setCs w g o k X).ownsRow 0 e m (.slice (some ⟨g,0,none⟩) n c) n ys∧(∀ p,p<o+k→ys[p]?=xs[p]?)∧(∀ i,i<X.length→o+k+i<n*m→ys[o+k+i]?=X[i]?)
 | [],k,w,xs,h=>⟨xs,h,fun _ _=>rfl,fun i hi=>by simp at hi⟩
 | x :: X,k,w,xs,h=>by
   obtain ⟨ys,h1,h2,h3⟩:=setCs_owns X (k+1) _ _ (h.stored (o+k) x).1
   refine ⟨ys,h1,fun p hp=>?_,fun i hi hl=>?_⟩
   ·rw [h2 p (by omega),List.getElem?_set_ne (by omega)]
   ·cases i with
    | zero =>
      rw [Nat.add_zero,h2 (o+k) (by omega),List.getElem?_set_self (by rw [h.1];omega)]
      rfl
    | succ i =>
      have:=h3 i (by simp at hi;omega) (by omega)
      rw [show o+k+(i+1)=o+(k+1)+i by omega,this]
      rfl
theorem Marked.put {e m n r c g:Nat} {X:List Value} (h:Marked w e m (.slice (some ⟨g,0,none⟩) n c) n r X) (hr:r<n) (hX:X.length=m):Marked (setCs w g (r*m) 0 X) e m (.slice (some ⟨g,0,none⟩) n c) n (r+1) X:=by
  obtain ⟨xs,h1,h2⟩:=h.is
  obtain ⟨ys,k1,k2,k3⟩:=setCs_owns (o:=r*m) X 0 w xs h1
  refine ⟨ys,k1,fun j i hj hi=>?_⟩
  by_cases e:j=r
  ·subst e
   have:=k3 i (by omega) (by
     have:(j+1)*m≤n*m:=Nat.mul_le_mul_right m hr
     rw [Nat.succ_mul] at this
     omega)
   rw [Nat.add_zero] at this
   exact this
  ·rw [k2 _ (by
     have:(j+1)*m≤r*m:=Nat.mul_le_mul_right m (by omega)
     rw [Nat.succ_mul] at this
     omega)]
   exact h2 j i (by omega) hi
theorem setCs_turn {M:Nat→Prop} {V:World} {g o:Nat} (hg:M g):∀ (X:List Value) (k:Nat) (w:World),Turn M V w→Turn M V (setCs w g o k X)
  | [],_,_,T=>T
  | _ :: X,k,_,T=>setCs_turn hg X (k+1) _ (T.sS (Or.inr hg))
theorem setCs_far {b g o:Nat} (hb:b≠g):∀ (X:List Value) (k:Nat) (w:World),(setCs w g o k X).heap[b]?=w.heap[b]?
  | [],_,_=>rfl
  | _ :: X,k,_=>(setCs_far hb X (k+1) _).trans (hSO hb)
theorem Marked.all9 {M:Nat→Prop} {V:World} {ob:Option Obj} {e n r c g b:Nat} {x0 x1 x2 x3 x4 x5 x6 x7 x8:Value} (T:Turn M V w) (hg:M g) (hb:b≠g) (hx:w.heap[b]?=ob) (h:Marked w e 9 (.slice (some ⟨g,0,none⟩) n c) n r [x0,x1,x2,x3,x4,x5,x6,x7,x8]) (hr:r<n) :
    Turn M V (((((((((w.setCell ⟨g,r*9,none⟩ x0).setCell ⟨g,r*9+1,none⟩ x1).setCell ⟨g,r*9+2,none⟩ x2).setCell ⟨g,r*9+3,none⟩ x3).setCell ⟨g,r*9+4,none⟩ x4).setCell ⟨g,r*9+5,none⟩ x5).setCell ⟨g,r*9+6,none⟩ x6).setCell ⟨g,r*9+7,none⟩ x7).setCell ⟨g,r*9+8,none⟩ x8)∧(((((((((w.setCell ⟨g,r*9,none⟩ x0).setCell ⟨g,r*9+1,none⟩ x1).setCell ⟨g,r*9+2,none⟩ x2).setCell ⟨g,r*9+3,none⟩ x3).setCell ⟨g,r*9+4,none⟩ x4).setCell ⟨g,r*9+5,none⟩ x5).setCell ⟨g,r*9+6,none⟩ x6).setCell ⟨g,r*9+7,none⟩ x7).setCell ⟨g,r*9+8,none⟩ x8).heap[b]?=ob∧Marked (((((((((w.setCell ⟨g,r*9,none⟩ x0).setCell ⟨g,r*9+1,none⟩ x1).setCell ⟨g,r*9+2,none⟩ x2).setCell ⟨g,r*9+3,none⟩ x3).setCell ⟨g,r*9+4,none⟩ x4).setCell ⟨g,r*9+5,none⟩ x5).setCell ⟨g,r*9+6,none⟩ x6).setCell ⟨g,r*9+7,none⟩ x7).setCell ⟨g,r*9+8,none⟩ x8) e 9 (.slice (some ⟨g,0,none⟩) n c) n (r+1) [x0,x1,x2,x3,x4,x5,x6,x7,x8] :=
 ⟨setCs_turn (o:=r*9) hg [x0,x1,x2,x3,x4,x5,x6,x7,x8] 0 w T,(setCs_far (o:=r*9) hb [x0,x1,x2,x3,x4,x5,x6,x7,x8] 0 w).trans hx,h.put hr rfl⟩
theorem Marked.all7 {M:Nat→Prop} {V:World} {ob:Option Obj} {e n r c g b:Nat} {x0 x1 x2 x3 x4 x5 x6:Value} (T:Turn M V w) (hg:M g) (hb:b≠g) (hx:w.heap[b]?=ob) (h:Marked w e 7 (.slice (some ⟨g,0,none⟩) n c) n r [x0,x1,x2,x3,x4,x5,x6]) (hr:r<n) :
    Turn M V (((((((w.setCell ⟨g,r*7,none⟩ x0).setCell ⟨g,r*7+1,none⟩ x1).setCell ⟨g,r*7+2,none⟩ x2).setCell ⟨g,r*7+3,none⟩ x3).setCell ⟨g,r*7+4,none⟩ x4).setCell ⟨g,r*7+5,none⟩ x5).setCell ⟨g,r*7+6,none⟩ x6)∧(((((((w.setCell ⟨g,r*7,none⟩ x0).setCell ⟨g,r*7+1,none⟩ x1).setCell ⟨g,r*7+2,none⟩ x2).setCell ⟨g,r*7+3,none⟩ x3).setCell ⟨g,r*7+4,none⟩ x4).setCell ⟨g,r*7+5,none⟩ x5).setCell ⟨g,r*7+6,none⟩ x6).heap[b]?=ob∧Marked (((((((w.setCell ⟨g,r*7,none⟩ x0).setCell ⟨g,r*7+1,none⟩ x1).setCell ⟨g,r*7+2,none⟩ x2).setCell ⟨g,r*7+3,none⟩ x3).setCell ⟨g,r*7+4,none⟩ x4).setCell ⟨g,r*7+5,none⟩ x5).setCell ⟨g,r*7+6,none⟩ x6) e 7 (.slice (some ⟨g,0,none⟩) n c) n (r+1) [x0,x1,x2,x3,x4,x5,x6] :=
 ⟨setCs_turn (o:=r*7) hg [x0,x1,x2,x3,x4,x5,x6] 0 w T,(setCs_far (o:=r*7) hb [x0,x1,x2,x3,x4,x5,x6] 0 w).trans hx,h.put hr rfl⟩
theorem Marked.all5 {M:Nat→Prop} {V:World} {ob:Option Obj} {e n r c g b:Nat} {x0 x1 x2 x3 x4:Value} (T:Turn M V w) (hg:M g) (hb:b≠g) (hx:w.heap[b]?=ob) (h:Marked w e 5 (.slice (some ⟨g,0,none⟩) n c) n r [x0,x1,x2,x3,x4]) (hr:r<n) :
    Turn M V (((((w.setCell ⟨g,r*5,none⟩ x0).setCell ⟨g,r*5+1,none⟩ x1).setCell ⟨g,r*5+2,none⟩ x2).setCell ⟨g,r*5+3,none⟩ x3).setCell ⟨g,r*5+4,none⟩ x4)∧(((((w.setCell ⟨g,r*5,none⟩ x0).setCell ⟨g,r*5+1,none⟩ x1).setCell ⟨g,r*5+2,none⟩ x2).setCell ⟨g,r*5+3,none⟩ x3).setCell ⟨g,r*5+4,none⟩ x4).heap[b]?=ob∧Marked (((((w.setCell ⟨g,r*5,none⟩ x0).setCell ⟨g,r*5+1,none⟩ x1).setCell ⟨g,r*5+2,none⟩ x2).setCell ⟨g,r*5+3,none⟩ x3).setCell ⟨g,r*5+4,none⟩ x4) e 5 (.slice (some ⟨g,0,none⟩) n c) n (r+1) [x0,x1,x2,x3,x4] :=
 ⟨setCs_turn (o:=r*5) hg [x0,x1,x2,x3,x4] 0 w T,(setCs_far (o:=r*5) hb [x0,x1,x2,x3,x4] 0 w).trans hx,h.put hr rfl⟩
theorem Marked.at_ {e m n r:Nat} {v:Value} {X:List Value} (h:Marked w e m v n r X) (hr:r<n):∃ g c,v= .slice (some ⟨g,0,none⟩) n c∧g<w.heap.size∧(∀ i,i<m→∃ u,w.cell? ⟨g,r*m+i,none⟩=some u)∧∀ i,w.frozen? ⟨g,i,none⟩=false:=by
  obtain ⟨xs,h1,_⟩:=h.is
  obtain ⟨g,c,rfl,_,hl⟩:=h1.form (by omega)
  refine ⟨g,c,rfl,hl,fun i hi=>?_,fun i=>h1.frozenAt i⟩
  have hlt:r*m+i<n*m:=by
    have:(r+1)*m≤n*m:=Nat.mul_le_mul_right m hr
    rw [Nat.succ_mul] at this
    omega
  rw [h1.cellAt _ hlt,List.getElem?_eq_getElem (by rw [h1.1];exact hlt)]
  exact ⟨_,rfl⟩
theorem mark_of {e m n:Nat} {v:Value} {X:List Value} (h:w.ownsRow 0 e m v n (rep n X)) (hX:X.length=m) (hn:n≤1000000000) (ho:∀ k,v.ownBlock=some k→own k=none):MarkAt own w m v X:=by
  by_cases h0:n=0
  ·rcases h.2 with ⟨rfl,_⟩|⟨g,cap,cur,rfl,_⟩
   ·exact ⟨none,0,0,rfl,Nat.zero_le _,Or.inl rfl⟩
   ·exact ⟨_,n,cap,rfl,hn,Or.inl h0⟩
  ·obtain ⟨g,c,rfl,_,_⟩:=h.form (by omega)
   exact ⟨_,n,c,rfl,hn,Or.inr ⟨g,rfl,ho g rfl,reads_of hX h⟩⟩
theorem mark_rd {m N g c:Nat} {X:List Value} (h:Reads w g N m X) (hn:N≤1000000000) (ho:own g=none):MarkAt own w m (.slice (some ⟨g,0,none⟩) N c) X :=
  ⟨_,N,c,rfl,hn,Or.inr ⟨g,rfl,ho,h⟩⟩
theorem news_rep {w:World} {B k:Nat} {X:List Value} {t:TypeId} {fr:Nat × Nat} (cs:Array Value) (hcs:cs.toList=rep k X) (hb:w.heap[B]?=some (.cells cs t fr)):∀ j u,(rep k X)[j]?=some u→w.cell? ((⟨B,0,none⟩:Addr).add j)=some u:=by
  rw [← hcs]
  exact World.news_of_block hb
theorem flat_ones:∀ (l:List Value),(l.map fun u=>[u]).flatten=l
  | []=>rfl
  | x :: l=>by rw [List.map_cons,List.flatten_cons,flat_ones l];rfl
theorem owns_one {base e m n gb cap:Nat} {xs:List Value} {w1 w2:World} (h:w1.ownsRow base e m (.slice (some ⟨gb,0,none⟩) n cap) n xs) (hb:w2.heap[gb]?=w1.heap[gb]?):w2.ownsRow base e m (.slice (some ⟨gb,0,none⟩) n cap) n xs:=by
  obtain ⟨hl,hv⟩:=h
  refine ⟨hl,?_⟩
  rcases hv with hv|⟨g,c,cur,e1,e2,e3,r⟩
  ·exact Or.inl hv
  ·cases e1
   exact Or.inr ⟨gb,cap,cur,rfl,e2,hb.trans e3,r⟩
end
end Go.Proofs.YtpdkojgepagbnaaGreatDoor
