/-
  A key is removed at the origin.
  A tier in memory, told as the plain one; what each call makes of it.
  A tier is made.
  A tier is made: the call.
  A cache's keys, in a fresh list.
-/
import Derived.Test.YtpdkojgepagbnaaGreatDoorJ26
import Derived.Test.YtpdkojgepagbnaaGreatDoorJ23
import Derived.Test.YtpdkojgepagbnaaGreatDoorJ06
import Derived.Test.YtpdkojgepagbnaaGreatDoorJ02
import Derived.Deep.RegionHeld3
namespace Go.Proofs.YtpdkojgepagbnaaGreatDoor
set_option maxRecDepth 100000
set_option maxHeartbeats 8000000
section
open Go.RowKit
open Tier (Mes Ans Conf)
attribute [local go_sem ↓] Go.wp_at_zero Go.wp_at_succ
theorem ORemove_none (own:Own) (τ bt:Nat) (g:Gh) (s:PS) (k:ByteArray) (w:World) (h:Lies own τ w bt g s) (hK:KeyTab w) (hk:keyB k=true) (hp:(s.record k).pres=0) :
    Calls Tryz.prog 73 #[.pointer (some ⟨g.bo,0,none⟩),.string k] w fun r w'=>r= .returned (.int .i64 8)∧Turn nO w w':=by
 have hks:=keyB_le hk
 have KI:=hide (isKey_any k w (by unfold maxLen;omega) hK)
 rw [hk] at KI
 have d0:w.cell? ⟨g.bo,0,none⟩=some (.map (some g.bm)):=cOf h.orig 0
 have hlk:Hid ((Instr.lookup 109 (.map (some g.bm)) (.string k) false).run Tryz.prog w= .ok (recV (s.record k)) w):=rec_look h.recs (by unfold maxLen;omega)
 generalize s.record k=rc at *
 obtain ⟨ver,pres,val⟩:=rc
 dsimp only at hp
 subst hp
 simp only [recV] at hlk
 clear h hK hk
 go_enter Tryz.func73,Tryz.ntmps73
 go_wp2_with fail
 refine (uH KI).mono ?_
 rintro e w1 ⟨rfl,rfl⟩
 have hlk:=uH hlk
 go_wp2
 go_ret
 exact ⟨rfl,by (repeat (first|(with_reducible first|assumption|exact Turn.refl _ _|apply Turn.sA|apply Turn.sD|refine tN ?_ (by assumption))|((with_reducible refine Turn.sS ?_ ?_);rotate_left;· first|exact Or.inr rfl|exact Or.inr (Or.inl rfl)|exact Or.inl (by simp <;> omega))|(with_reducible refine tG ?_ (by assumption))|(with_reducible first|apply There.drew|apply There.set|refine hNo ?_ (by assumption))|assumption))⟩
theorem ORemove_ok (own:Own) (τ bt:Nat) (g:Gh) (s:PS) (k:ByteArray) (w:World) (h:Lies own τ w bt g s) (hK:KeyTab w) (hk:keyB k=true) (hp:¬ (s.record k).pres=0) (hl:s.recs.length<100) (hver:0≤(s.record k).ver∧(s.record k).ver≤1000000000000) :
    Calls Tryz.prog 73 #[.pointer (some ⟨g.bo,0,none⟩),.string k] w fun r w'=>r= .returned (.int .i64 0)∧Lies own τ w' bt g (s.write k 0 none8)∧Step τ own own w w':=by
 have hks:=keyB_le hk
 have HH:=hide h
 have KI:=hide (isKey_any k w (by unfold maxLen;omega) hK)
 rw [hk] at KI
 have d0:w.cell? ⟨g.bo,0,none⟩=some (.map (some g.bm)):=cOf h.orig 0
 have hbm:g.bm<w.heap.size:=h.recs.lt
 have hbo:g.bo<w.heap.size:=heap_lt h.orig
 have hlk:Hid ((Instr.lookup 109 (.map (some g.bm)) (.string k) false).run Tryz.prog w= .ok (recV (s.record k)) w):=rec_look h.recs (by unfold maxLen;omega)
 have hkm:k.size≤maxLen:=by unfold maxLen;omega
 have hrl:s.recs.length<maxLen:=by unfold maxLen;omega
 unfold PS.write
 generalize s.record k=rc at *
 obtain ⟨ver,pres,val⟩:=rc
 dsimp only at hp hver ⊢
 have hwr:IntKind.i64.wrap (ver+1)=ver+1:=by rw [IntKind.wrap_i64];omega
 simp only [recV] at hlk
 clear h hK hk hver
 go_enter Tryz.func73,Tryz.ntmps73
 go_wp2_with fail
 refine (uH KI).mono ?_
 rintro e w1 ⟨rfl,rfl⟩
 have hlk:=uH hlk
 go_wp2
 generalize hW:World.alloc _ _=W0
 have T0:Turn nO w1 W0:=by rw [← hW];exact Turn.alloc _ _ _
 have y0:W0.cell? ⟨w1.heap.size,0,none⟩=some (.int .i64 ver):=by rw [← hW];exact cOf (new1_0 w1 _) 0
 have hsz:W0.heap.size=w1.heap.size+1:=by rw [← hW];simp
 have c0:=T0.cell d0 id
 have HL:=hide ((uH HH).turn T0)
 have hne:Hid (∀ k',some k'=some g.bm→k'<w1.heap.size∧k'≠g.bo):=fun k' e=>by cases e;exact ⟨hbm,fun e=>by have:=(uH HH).recsO;rw [e,(uH HH).origO] at this;cases this⟩
 clear hW d0 hlk
 obtain ⟨w2,hrun,hm2,ht2⟩:=map_put (w:=W0.drew) ((uH HL).recs.heap rfl) stringKeyed Tryz.underlying109 string_inj (Go.WideMaps.keyOf_string_mk Tryz.underlying9 hkm) ⟨ver+1,0,none8⟩ hrl
 have hgrow:=ht2.grown
 have HE:=hide (((uH HL).turn (Turn.drew _ _)).wrote hm2 ht2)
 simp only [recV,none8] at hrun
 clear hm2 ht2
 have HS:=fun w' (T:Turn (fun k'=>k'=0∧False∨some k'=some g.bm) W0 w')=>And.intro T (And.intro (T.cell c0 (fun h=>h.elim (fun e=>e.2) (fun e=>(uH hne _ e).2 rfl))) (T.cell y0 (fun h=>h.elim (fun e=>e.2) (fun e=>absurd (uH hne _ e).1 (by dsimp only;omega)))))
 go_region_held3 (fun w'=>Turn (fun k'=>k'=0∧False∨some k'=some g.bm) W0 w'∧w'.cell? ⟨g.bo,0,none⟩=some (.map (some g.bm))∧w'.cell? ⟨w1.heap.size,0,none⟩=some (.int .i64 ver)) ((go_split_ands;apply HS;all_goals (repeat (first|(with_reducible first|assumption|exact Turn.refl _ _|apply Turn.sA|apply Turn.sD|refine tN ?_ (by assumption))|((with_reducible refine Turn.sS ?_ ?_);rotate_left;· first|exact Or.inr rfl|exact Or.inr (Or.inl rfl)|exact Or.inl (by simp <;> omega))|(with_reducible refine tG ?_ (by assumption))|(with_reducible first|apply There.drew|apply There.set|refine hNo ?_ (by assumption))|assumption)))) (fail)
 go_split_ands
 clear HS hrun
 have HF:=hide (And.intro (uH HE).1 ((Step.of_turn (τ:=τ) (own:=own) T0.sD).trans (uH HE).2))
 go_wp2
 go_ret
 exact ⟨rfl,(uH HF).1,(uH HF).2⟩
theorem Remove_call (own:Own) (τ bt:Nat) (g:Gh) (s:PS) (k:ByteArray) (e:Int) (P:World→Prop) (w:World) (h:Lies own τ w bt g s) (KO:Calls Tryz.prog 73 #[.pointer (some ⟨g.bo,0,none⟩),.string k] w fun r w'=>r= .returned (.int .i64 e)∧P w') :
    Calls Tryz.prog 39 #[.pointer (some ⟨bt,0,none⟩),.string k] w fun r w'=>r= .returned (.int .i64 e)∧P w':=by
 have KO:=hide KO
 have d5:w.cell? ⟨bt,5,none⟩=some (.pointer (some ⟨g.bo,0,none⟩)):=cOf h.tier.block 5
 clear h
 go_enter Tryz.func39,Tryz.ntmps39
 go_wp2_with fail
 refine (uH KO).mono ?_
 rintro r w1 ⟨rfl,HE⟩
 have HE:=hide HE
 go_wp2
 go_ret
 exact ⟨rfl,uH HE⟩
theorem Remove_none (own:Own) (τ bt:Nat) (g:Gh) (s:PS) (k:ByteArray) (w:World) (h:Lies own τ w bt g s) (hK:KeyTab w) (hk:keyB k=true) (hp:(s.record k).pres=0) :
    Calls Tryz.prog 39 #[.pointer (some ⟨bt,0,none⟩),.string k] w fun r w'=>r= .returned (.int .i64 8)∧Turn nO w w' :=
 Remove_call own τ bt g s k 8 (fun w'=>Turn nO w w') w h (ORemove_none own τ bt g s k w h hK hk hp)
theorem Remove_ok (own:Own) (τ bt:Nat) (g:Gh) (s:PS) (k:ByteArray) (w:World) (h:Lies own τ w bt g s) (hK:KeyTab w) (hk:keyB k=true) (hp:¬ (s.record k).pres=0) (hl:s.recs.length<100) (hver:0≤(s.record k).ver∧(s.record k).ver≤1000000000000) :
    Calls Tryz.prog 39 #[.pointer (some ⟨bt,0,none⟩),.string k] w fun r w'=>r= .returned (.int .i64 0)∧Lies own τ w' bt g (s.write k 0 none8)∧Step τ own own w w' :=
 Remove_call own τ bt g s k 0 (fun w'=>Lies own τ w' bt g (s.write k 0 none8)∧Step τ own own w w') w h (ORemove_ok own τ bt g s k w h hK hk hp hl hver)
end
section
open Go.RowKit
open Tier (Mes Ans Conf St Kept Wtr Ftc Cac Item)
structure TierAt (own:Own) (τ:Nat) (w:World) (bt b:Nat) (t:St):Prop where
  is:∃ g s,Lies own τ w bt g s∧s.Sane∧s.Few b∧Ref s t∧RecsOK b s t
theorem TierAt.mono {own:Own} {τ:Nat} {w:World} {bt a b:Nat} {t:St} (h:TierAt own τ w bt a t) (hab:a≤b):TierAt own τ w bt b t:=by
  obtain ⟨g,s,L,S,F,R,Q⟩:=h.is
  exact ⟨⟨g,s,L,S,F.mono hab,R,Q.mono hab⟩⟩
theorem TierAt.turn {own:Own} {τ:Nat} {w w':World} {bt b:Nat} {t:St} (h:TierAt own τ w bt b t) (T:Turn nO w w'):TierAt own τ w' bt b t:=by
  obtain ⟨g,s,L,S,F,R,Q⟩:=h.is
  exact ⟨⟨g,s,L.turn T,S,F,R,Q⟩⟩
theorem TierAt.frame {own own':Own} {τ:Nat} {w w':World} {bt b:Nat} {t:St} (h:TierAt own τ w bt b t) (hf:∀ k,k<w.heap.size→Mine own τ k→w'.heap[k]?=w.heap[k]?∧own' k=own k) (ht:∀ k,w'.heap.size≤k→own' k=none):TierAt own' τ w' bt b t:=by
  obtain ⟨g,s,L,S,F,R,Q⟩:=h.is
  exact ⟨⟨g,s,L.frame hf ht,S,F,R,Q⟩⟩
theorem TierAt.top {own:Own} {τ:Nat} {w:World} {bt b:Nat} {t:St} (h:TierAt own τ w bt b t):∀ k,w.heap.size≤k→own k=none:=by
  obtain ⟨g,s,L,_⟩:=h.is
  exact L.top
theorem TierAt.netLen {own:Own} {τ:Nat} {w:World} {bt b:Nat} {t:St} (h:TierAt own τ w bt b t):t.net.length≤b∧t.answers.length≤b:=by
  obtain ⟨g,s,L,S,F,R,Q⟩:=h.is
  rw [R.net,R.answers];exact ⟨F.net,F.answers⟩
def Leaves (own:Own) (τ:Nat) (w:World) (bt b:Nat) (t:St) (w':World):Prop:=∃ own',TierAt own' τ w' bt b t∧Step τ own own' w w'
variable {own:Own} {τ:Nat} {w:World} {bt b:Nat} {t:St}
theorem TierAt.write (h:TierAt own τ w bt b t) (hK:KeyTab w) (hb:b+10≤1000000000000) {k v:ByteArray} (hk:keyB k=true) (hv:valB v=true) (hl:(t.item k).ver=0→t.items.length<16) :
    Calls Tryz.prog 37 #[.pointer (some ⟨bt,0,none⟩),.string k,.string v] w fun r w'=>r= .returned (.int .i64 0)∧Leaves own τ w bt (b+5) (t.changes ⟨k,(t.item k).ver+1,1,v⟩) w':=by
 obtain ⟨g,s,L,S,F,R,Q⟩:=h.is
 have hl':aget s.recs k=none→s.recs.length<16:=fun hn=>by
   have h1:(t.item k).ver=0:=by rw [R.items k];show (s.record k).ver=0;unfold PS.record;rw [hn];rfl
   have h2:=Q.keys.length_eq
   rw [List.length_map,List.length_map] at h2
   have:=hl h1
   omega
 refine (Write_ok own τ bt g s k v w L hK hk hv hl' (by have:=Q.few;omega) (fun p hp=>by have:=Q.ver p hp;omega)).mono ?_
 rintro r w' ⟨rfl,L',S'⟩
 exact ⟨rfl,own,⟨⟨g,_,L',S.write k 1 v,(F.write k 1 v).mono (by omega),R.write k 1 v,(Q.write k 1 v hl').mono (by omega)⟩⟩,S'⟩
theorem TierAt.removeNone (h:TierAt own τ w bt b t) (hK:KeyTab w) {k:ByteArray} (hk:keyB k=true) (hp:(t.item k).pres=0) :
    Calls Tryz.prog 39 #[.pointer (some ⟨bt,0,none⟩),.string k] w fun r w'=>r= .returned (.int .i64 8)∧Leaves own τ w bt (b+5) t w':=by
 have h0:=h
 obtain ⟨g,s,L,S,F,R,Q⟩:=h.is
 refine (Remove_none own τ bt g s k w L hK hk (by have:=R.items k;rw [this] at hp;exact hp)).mono ?_
 rintro r w' ⟨rfl,T⟩
 exact ⟨rfl,own,(h0.turn T).mono (by omega),Step.of_turn T⟩
theorem TierAt.remove (h:TierAt own τ w bt b t) (hK:KeyTab w) (hb:b+10≤1000000000000) {k:ByteArray} (hk:keyB k=true) (hp:¬ (t.item k).pres=0) :
    Calls Tryz.prog 39 #[.pointer (some ⟨bt,0,none⟩),.string k] w fun r w'=>r= .returned (.int .i64 0)∧Leaves own τ w bt (b+5) (t.changes ⟨k,(t.item k).ver+1,0,Tier.empty⟩) w':=by
 obtain ⟨g,s,L,S,F,R,Q⟩:=h.is
 have hp':¬ (s.record k).pres=0:=by have:=R.items k;rw [this] at hp;exact hp
 have hn:aget s.recs k=none→s.recs.length<16:=fun hn=>absurd (by unfold PS.record;rw [hn];rfl) hp'
 have hver:0≤(s.record k).ver∧(s.record k).ver≤1000000000000:=by
   unfold PS.record
   cases hr:aget s.recs k with
   | none=>show (0:Int)≤0∧(0:Int)≤1000000000000;decide
   | some o=>have:=Q.ver _ (aget_mem hr);dsimp only at this;show 0≤o.ver∧o.ver≤_;omega
 refine (Remove_ok own τ bt g s k w L hK hk hp' (by have:=Q.few;omega) hver).mono ?_
 rintro r w' ⟨rfl,L',S'⟩
 exact ⟨rfl,own,⟨⟨g,_,L',S.write k 0 none8,(F.write k 0 none8).mono (by omega),R.write k 0 none8,(Q.write k 0 none8 hn).mono (by omega)⟩⟩,S'⟩
theorem inB_cache {n:Nat} {c:Conf} (h0:0<n) (h1:n<c.parents.length):Nums.inB (n:Int) 1 ((c.parents.length:Int) - 1)=true:=(Nums.inB_iff ..).2 (by omega)
theorem TierAt.clock (h:TierAt own τ w bt b t) {n:Nat} {r:Int} (h0:0<n) (h1:n<t.c.parents.length) (hr:0≤r∧r≤1099511627776) :
    Calls Tryz.prog 41 #[.pointer (some ⟨bt,0,none⟩),.int .i64 (n:Int),.int .i64 r] w fun e w'=>e= .returned (.int .i64 0)∧Leaves own τ w bt (b+5) (t.tick n (max (t.cac n).clock r)) w':=by
 obtain ⟨g,s,L,S,F,R,Q⟩:=h.is
 rw [R.c] at h1
 have hck:=R.clock n h1
 refine (Clock_ok own τ bt g s n r w L S.len.2 (inB_cache h0 h1) ((Nums.inB_iff ..).2 hr)).mono ?_
 rintro e w' ⟨rfl,L',S'⟩
 rw [hck]
 have hm:s.clk n≤max (s.clk n) r:=by omega
 have hm1:max (s.clk n) r≤1099511627776:=by have:=(S.clk n).2;omega
 exact ⟨rfl,own,⟨⟨g,s.tick n (max (s.clk n) r),L',S.tick hm hm1,(F.tick n _).mono (by omega),R.tick h1 _,(Q.mono (by omega)).same rfl rfl⟩⟩,S'⟩
theorem TierAt.clockTime (h:TierAt own τ w bt b t) {n:Nat} {r:Int} (h0:0<n) (h1:n<t.c.parents.length) (hr:¬ (0≤r∧r≤1099511627776)) :
    Calls Tryz.prog 41 #[.pointer (some ⟨bt,0,none⟩),.int .i64 (n:Int),.int .i64 r] w fun e w'=>e= .returned (.int .i64 5)∧Leaves own τ w bt (b+5) t w':=by
 have h':=h
 obtain ⟨g,s,L,S,F,R,Q⟩:=h.is
 rw [R.c] at h1
 have hf:Nums.inB r 0 1099511627776=false:=by
   cases hq:Nums.inB r 0 1099511627776 with
   | false=>rfl
   | true=>exact absurd ((Nums.inB_iff ..).1 hq) hr
 refine (Clock_time own τ bt g s n r w L S.len.2 (inB_cache h0 h1) hf).mono ?_
 rintro e w' ⟨rfl,rfl⟩
 exact ⟨rfl,own,h'.mono (by omega),Step.refl _ _ _⟩
theorem recs_asked (s:PS) (n:Nat) (k:ByteArray) (x:Wt) (v:Value):(s.asked n k x v).recs=s.recs:=by
  have h1:∀ u:PS,(u.refuse n k x).recs=u.recs:=fun u=>by unfold PS.refuse;split <;> rfl
  have h2:(s.wait n k x v).recs=s.recs:=by
    unfold PS.wait
    split
    ·exact h1 s
    ·split <;> rfl
  unfold PS.asked
  split
  ·exact h2
  ·split
   ·unfold PS.tell
    split
    ·rfl
    ·split <;> rfl
   ·exact h2
theorem items_wants (t:St) (n:Nat) (k:ByteArray) (x:Wtr):(t.wants n k x).items=t.items:=by
  have h1:∀ u:St,(u.refused n k x).items=u.items:=fun u=>by unfold Tier.St.refused;split <;> rfl
  have h2:∀ tag,(if t.c.waiters≤t.waiting n then t.refused n k x else if (t.fetch n k).isSome then t.joins n k x else t.sends n k tag [x]).items=t.items:=fun tag=>by
    split
    ·exact h1 t
    ·split <;> rfl
  unfold Tier.St.wants
  split
  ·next e _ =>
   split
   ·unfold Tier.St.toldBy
    split
    ·rfl
    ·split <;> rfl
   ·exact h2 e.ver
  ·exact h2 (-1)
theorem TierAt.ask (h:TierAt own τ w bt b t) (hK:KeyTab w) (hb:b+10≤1000000000000) {n:Nat} {id:Int} {k:ByteArray} (h0:0<n) (h1:n<t.c.parents.length) (hk:keyB k=true) :
    Calls Tryz.prog 43 #[.pointer (some ⟨bt,0,none⟩),.int .i64 (n:Int),.int .i64 id,.string k] w fun r w'=>r= .returned (.int .i64 0)∧Leaves own τ w bt (b+5) (t.wants n k ⟨-1,id,0,0⟩) w':=by
 obtain ⟨g,s,L,S,F,R,Q⟩:=h.is
 rw [R.c] at h1
 have hks:=keyB_le hk
 have hx:WtOK s.c ⟨0,0,0,id⟩:=⟨Int.le_refl _,by have:=S.len.1;show (0:Int)<_;omega⟩
 refine (Ask_ok own τ bt g s n id k (fun s'=>∃ v,s'=s.asked n k ⟨0,0,0,id⟩ v) w L (place_ok own τ bt g s n k w L hK (by unfold maxLen;omega) S.len.2 (inB_cache h0 h1) hk) (fun w L=>?_)).mono ?_
 ·refine (asked_any own τ bt g s n k ⟨0,0,0,id⟩ w L (S.fine F (by omega)) (by have:=S.len;omega) (by omega) (by have:=(S.used n).1;have:=S.entries;omega) (by have:=F.serial;omega) (by have:=F.net;omega) (by have:=F.answers;omega) h1).mono ?_
  rintro r w' ⟨rfl,own',g',v,L',S',GL⟩
  exact ⟨rfl,own',g',_,⟨v,rfl⟩,L',S',GL⟩
 ·rintro r w' ⟨rfl,own',g',s',⟨v,rfl⟩,L',S',GL⟩
  refine ⟨rfl,own',⟨⟨g',_,L',S.asked h0 h1 (by omega) hx,(F.asked n k _ v).mono (by omega),?_,(Q.mono (by omega)).same (recs_asked ..) (items_wants ..)⟩⟩,S'⟩
  exact R.asked h1 k (x:=⟨0,0,0,id⟩) (Int.le_refl _) v
theorem TierAt.net (h:TierAt own τ w bt b t) (hb:b≤1000000000000) :
    Calls Tryz.prog 32 #[.pointer (some ⟨bt,0,none⟩)] w fun r w'=>∃ v,r= .returned v∧Turn nO w w'∧w'.ownsRow w.heap.size 37 9 v t.net.length (t.net.map mesL).flatten:=by
 obtain ⟨g,s,L,S,F,R,Q⟩:=h.is
 have:=Net_any own τ bt g s w L (by have:=F.net;omega)
 rw [R.net]
 exact this
theorem recs_refuseL (n:Nat) (k:ByteArray):∀ (l:List Wt) (s:PS),(s.refuseL n k l).recs=s.recs
  | [],_=>rfl
  | x :: l,s=>by
    have h1:(s.refuse n k x).recs=s.recs:=by unfold PS.refuse;split <;> rfl
    exact (recs_refuseL n k l (s.refuse n k x)).trans h1
theorem recs_tellL (n:Nat) (e:See):∀ (l:List Wt) (s:PS),(s.tellL n e l).recs=s.recs
  | [],_=>rfl
  | x :: l,s=>by
    have h1:(s.tell n x e).recs=s.recs:=by unfold PS.tell;split;rfl;split <;> rfl
    exact (recs_tellL n e l (s.tell n x e)).trans h1
theorem recs_arrive (s:PS) (m:Mes) (v:Value):(s.arrive m v).recs=s.recs:=by
  unfold PS.arrive
  split
  ·unfold PS.answered
   split
   ·rfl
   ·split
    ·rfl
    ·split
     ·exact recs_refuseL _ _ _ _
     ·split
      ·rfl
      ·dsimp only
       have hk:=(s.keeps_learn m.to.toNat m (m.age+elap s.c.drift (s.clk m.to.toNat - Ft.sent ‹_›))).recs
       unfold PS.finish
       split
       ·exact (recs_tellL _ _ _ _).trans hk
       ·exact (recs_refuseL _ _ _ _).trans hk
  ·split
   ·unfold PS.askedOrigin PS.tell
    split
    ·rfl
    ·split <;> rfl
   ·exact recs_asked ..
theorem items_refuseAll (n:Nat) (k:ByteArray):∀ (l:List Wtr) (t:St),(t.refuseAll n k l).items=t.items
  | [],_=>rfl
  | x :: l,t=>by
    have h1:(t.refused n k x).items=t.items:=by unfold Tier.St.refused;split <;> rfl
    exact (items_refuseAll n k l (t.refused n k x)).trans h1
theorem items_tellAll (n:Nat) (k:ByteArray):∀ (l:List Wtr) (t:St),(t.tellAll n k l).items=t.items
  | [],_=>rfl
  | x :: l,t=>by
    have h1:(match t.entry n k with|some e=>t.toldBy n e x|none=>t).items=t.items:=by
      split
      ·unfold Tier.St.toldBy;split;rfl;split <;> rfl
      ·rfl
    exact (items_tellAll n k l _).trans h1
theorem items_comes (t:St) (m:Mes):(t.comes m).items=t.items:=by
  unfold Tier.St.comes
  split
  ·unfold Tier.St.answered
   split
   ·rfl
   ·split
    ·rfl
    ·split
     ·exact items_refuseAll _ _ _ _
     ·split
      ·rfl
      ·dsimp only
       split
       ·exact items_tellAll _ _ _ _
       ·exact items_refuseAll _ _ _ _
  ·split
   ·exact items_wants ..
   ·unfold Tier.St.atOrigin
    dsimp only
    split <;> rfl
theorem TierAt.deliver (h:TierAt own τ w bt b t) (hb:b+10≤1000000000000) {i:Nat} {m:Mes} (hi:t.net[i]?=some m) :
    Calls Tryz.prog 45 #[.pointer (some ⟨bt,0,none⟩),.int .i64 (i:Int)] w fun r w'=>r= .returned (.int .i64 0)∧Leaves own τ w bt (b+5) ((t.taken i).comes m) w':=by
 obtain ⟨g,s,L,S,F,R,Q⟩:=h.is
 rw [R.net] at hi
 have hm:=S.net m (List.mem_of_getElem? hi)
 refine (Deliver_ok own τ bt g s i b m w L S F hb hi).mono ?_
 rintro r w' ⟨rfl,own',g',v,L',S',GL⟩
 have S1:=S.taken i
 have R1:=R.taken i
 refine ⟨rfl,own',⟨⟨g',_,L',S1.arrive hm,(F.taken i).arrive S1 m v,?_,(Q.mono (by omega)).same (recs_arrive ..) (items_comes ..)⟩⟩,S'⟩
 exact R1.arrive m v hm.to0 hm.to1 (fun e=>(hm.frm e).1) (fun n k f hf x hx=>((S1.fts _ (aget_mem hf)).2.2.2.2.2.2 x hx).1) (fun e=>by have:=hm.ver (by omega);omega)
theorem TierAt.lose (h:TierAt own τ w bt b t) (hb:b+10≤1000000000000) {i:Nat} {m:Mes} (hi:t.net[i]?=some m) :
    Calls Tryz.prog 47 #[.pointer (some ⟨bt,0,none⟩),.int .i64 (i:Int)] w fun r w'=>r= .returned (.int .i64 0)∧Leaves own τ w bt (b+5) (t.taken i) w':=by
 obtain ⟨g,s,L,S,F,R,Q⟩:=h.is
 rw [R.net] at hi
 refine (Lose_ok own τ bt g s i m w L (by have:=F.net;omega) hi).mono ?_
 rintro r w' ⟨rfl,g',L',S',GL⟩
 exact ⟨rfl,own,⟨⟨g',_,L',S.taken i,(F.taken i).mono (by omega),R.taken i,(Q.mono (by omega)).same rfl rfl⟩⟩,S'⟩
theorem TierAt.double (h:TierAt own τ w bt b t) {i:Nat} {m:Mes} (hi:t.net[i]?=some m) (hl:t.net.length<64) :
    Calls Tryz.prog 49 #[.pointer (some ⟨bt,0,none⟩),.int .i64 (i:Int)] w fun r w'=>r= .returned (.int .i64 0)∧Leaves own τ w bt (b+5) { t with net:=t.net ++ [m] } w':=by
 obtain ⟨g,s,L,S,F,R,Q⟩:=h.is
 rw [R.net] at hi hl
 refine (Double_ok own τ bt g s i m w L hi hl).mono ?_
 rintro r w' ⟨rfl,own',g',L',S',GL⟩
 exact ⟨rfl,own',⟨⟨g',_,L',S.doubled (List.mem_of_getElem? hi),(F.doubled m).mono (by omega),R.doubled m,(Q.mono (by omega)).same rfl rfl⟩⟩,S'⟩
theorem TierAt.doubleFull (h:TierAt own τ w bt b t) (hb:b+10≤1000000000000) {i:Nat} (hi:i<t.net.length) (hl:64≤t.net.length) :
    Calls Tryz.prog 49 #[.pointer (some ⟨bt,0,none⟩),.int .i64 (i:Int)] w fun r w'=>r= .returned (.int .i64 7)∧Leaves own τ w bt (b+5) t w':=by
 have h0:=h
 obtain ⟨g,s,L,S,F,R,Q⟩:=h.is
 rw [R.net] at hi hl
 refine (Double_full own τ bt g s i w L (by have:=F.net;omega) hi hl).mono ?_
 rintro r w' ⟨rfl,rfl⟩
 exact ⟨rfl,own,h0.mono (by omega),Step.refl _ _ _⟩
theorem TierAt.timeout (h:TierAt own τ w bt b t) (hK:KeyTab w) (hb:b+10≤1000000000000) {n:Nat} {k:ByteArray} (h0:0<n) (h1:n<t.c.parents.length) (hk:keyB k=true) :
    Calls Tryz.prog 51 #[.pointer (some ⟨bt,0,none⟩),.int .i64 (n:Int),.string k] w fun r w'=>r= .returned (.int .i64 (t.timeoutE n k))∧Leaves own τ w bt (b+5) (t.timeout n k) w':=by
 have hh:=h
 obtain ⟨g,s,L,S,F,R,Q⟩:=h.is
 rw [R.c] at h1
 have hks:=keyB_le hk
 have KP:=place_ok own τ bt g s n k w L hK (by unfold maxLen;omega) S.len.2 (inB_cache h0 h1) hk
 have hft:=R.fetch h1 k
 unfold Tier.St.timeout Tier.St.timeoutE
 cases hf:aget s.fts (n,k) with
 | none =>
   rw [hf] at hft
   rw [show t.fetch n k=none from hft]
   refine (Timeout_none own τ bt g s n k w L (by have:=S.len;omega) (by omega) hf KP).mono ?_
   rintro r w' ⟨rfl,T⟩
   exact ⟨rfl,own,(hh.turn T).mono (by omega),Step.of_turn T⟩
 | some f =>
   rw [hf] at hft
   rw [show t.fetch n k=some (ftcOf ((n,k),f)) from hft]
   have h4:=S.wl (aget_mem hf)
   dsimp only at h4
   have hx:=(S.fts _ (aget_mem hf)).2.2.2.2.2.2
   refine (Timeout_ok own τ bt g s n k f w L (S.fine F (by omega)) (by have:=S.len;omega) (by omega) hf (by have:=F.net;omega) (by have:=F.answers;omega) KP).mono ?_
   rintro r w' ⟨rfl,own',g',L',S',GL⟩
   exact ⟨rfl,own',⟨⟨g',_,L',PS.Sane.refuseL (by omega) f.l (S.over n k) hx,((F.over n k).refuseL n k f.l).mono (by omega),(R.over h1 k).refuseAll f.l (fun x hx'=>(hx x hx').1),(Q.mono (by omega)).same (recs_refuseL ..) (items_refuseAll ..)⟩⟩,S'⟩
theorem TierAt.crash (h:TierAt own τ w bt b t) {n:Nat} (h0:0<n) (h1:n<t.c.parents.length) :
    Calls Tryz.prog 53 #[.pointer (some ⟨bt,0,none⟩),.int .i64 (n:Int)] w fun r w'=>r= .returned (.int .i64 0)∧Leaves own τ w bt (b+5) (t.crash n) w':=by
 obtain ⟨g,s,L,S,F,R,Q⟩:=h.is
 rw [R.c] at h1
 refine (Crash_ok own τ bt g s n w L S.len.2 (inB_cache h0 h1) (by have:=(S.used n).1;have:=S.entries;omega) (fun k hk=>by have:=(S.used n).2 k hk;omega) (fun p hp=>by obtain ⟨a,c,_⟩:=S.fts p hp;have:=S.len;omega)).mono ?_
 rintro r w' ⟨rfl,own',g',L',S',GL⟩
 exact ⟨rfl,own',⟨⟨g',_,L',S.clear n,(F.clear n).mono (by omega),R.crash h1,(Q.mono (by omega)).same rfl rfl⟩⟩,S'⟩
end
section
open Go.RowKit
open Tier (Mes Ans Conf St)
attribute [local go_sem ↓] Go.wp_at_zero Go.wp_at_succ
theorem confB_parts {zs:List Int} {dr bu en wa:Int} (h:confB zs dr bu en wa=true):ConfOK ⟨zs,dr,bu,en,wa⟩:=by
  unfold confB parentsB at h
  simp only [Bool.and_eq_true,Nums.inB_iff] at h
  obtain ⟨⟨⟨⟨⟨⟨h1,h2⟩,h3⟩,h4⟩,h5⟩,h6⟩,h7⟩:=h
  refine ⟨h4,h5,h6,h7,⟨by show 2≤zs.length;omega,by show zs.length≤6;omega⟩,fun n h0 hn=>?_⟩
  have hn:n<zs.length:=hn
  show 0≤zs.getD n 0∧zs.getD n 0<zs.length
  unfold allB at h3
  rw [List.all_eq_true] at h3
  have:=h3 n (List.mem_range.2 hn)
  rw [show zs.length=(zs.length - 1)+1 by omega,Nums.goes,if_neg (by omega)] at this
  split at this
  ·next hb =>
   have:=Nums.inB_iff.1 hb
   omega
  ·cases this
theorem owns_turn {M:Nat→Prop} {w w':World} {base e s n:Nat} {v:Value} {xs:List Value} (h:w.ownsRow base e s v n xs) (T:Turn M w w') (hm:∀ k,v.ownBlock=some k→¬ M k):w'.ownsRow base e s v n xs:=by
  obtain ⟨hl,hv⟩:=h
  refine ⟨hl,?_⟩
  rcases hv with hv|⟨g,cap,cur,e1,e2,e3,r⟩
  ·exact Or.inl hv
  ·exact Or.inr ⟨g,cap,cur,e1,e2,(T.block g (heap_lt e3) (hm g (by rw [e1];rfl))).trans e3,r⟩
theorem owns_base {w:World} {base base' e s n:Nat} {v:Value} {xs:List Value} (h:w.ownsRow base e s v n xs) (hb:base'≤base):w.ownsRow base' e s v n xs:=by
  obtain ⟨hl,hv⟩:=h
  refine ⟨hl,?_⟩
  rcases hv with hv|⟨g,cap,cur,e1,e2,r⟩
  ·exact Or.inl hv
  ·exact Or.inr ⟨g,cap,cur,e1,Nat.le_trans hb e2,r⟩
theorem sliceAt_owns {w:World} {base n:Nat} {a:Option Addr} {m c:Nat} {zs:List Int} (h:w.ownsRow base 3 1 (.slice a m c) n (zs.map fun z=> .int .i64 z)) (hn:n=zs.length):SliceAt w a zs:=by
  intro hp
  have h':=h
  obtain ⟨hl,⟨hv,h0⟩|⟨g,cap,cur,hv,_⟩⟩:=h
  ·omega
  ·cases hv
   refine ⟨g,0,rfl,fun j hj=>?_⟩
   have:=h'.cellAt j (by omega)
   rw [Nat.zero_add,this]
   rw [List.getElem?_map,List.getD_eq_getElem?_getD]
   rw [List.getElem?_eq_getElem hj];rfl
theorem one_ints (zs:List Int):∀ u∈zs.map (fun z=>Value.int .i64 z),u.oneCell'=true:=by
  intro u hu
  obtain ⟨z,_,rfl⟩:=List.mem_map.1 hu
  rfl
theorem Copy_any (v:Value) (zs:List Int) (dr bu en wa:Int) (w:World) (h:w.ownsRow 0 3 1 v zs.length (zs.map fun z=> .int .i64 z)) (hz:zs.length≤1000000000000) :
    Calls Tryz.prog 23 #[.agg #[v,.int .i64 dr,.int .i64 bu,.int .i64 en,.int .i64 wa]] w fun r w'=>∃ v',r= .returned (.agg #[v',.int .i64 dr,.int .i64 bu,.int .i64 en,.int .i64 wa])∧Turn nO w w'∧w'.ownsRow w.heap.size 3 1 v' zs.length (zs.map fun z=> .int .i64 z):=by
 obtain ⟨a,cp,hv⟩:=row_form h
 have KC:=hide (fun w' (T:Turn nO w w') (h':w'.ownsRow 0 3 1 v zs.length (zs.map fun z=> .int .i64 z))=>Clone_int v zs.length _ w' h' (one_ints zs) hz)
 have HR:=hide h
 subst hv
 clear h hz
 go_enter Tryz.func23,Tryz.ntmps23
 go_wp2_with fail
 generalize hW:World.alloc _ _=W0
 have T0:Turn nO w W0:=by rw [← hW];exact (Turn.alloc _ _ _).sA
 have hsz:W0.heap.size=w.heap.size+1+1:=by rw [← hW];simp
 have b0:∃ ty,W0.heap[w.heap.size]?=some (.cells #[.slice a zs.length cp,.int .i64 dr,.int .i64 bu,.int .i64 en,.int .i64 wa] ty (0,0)):=by rw [← hW];exact ⟨_,new2_0 _ _ _⟩
 have b1:There W0 (w.heap.size+1) 5:=by rw [← hW];exact There.new (by simp) (by simp)
 clear hW
 refine (uH KC W0 T0 (owns_turn (uH HR) T0 (fun _ _ h=>h))).mono ?_
 rintro e w1 ⟨v',rfl,T1,R1⟩
 obtain ⟨a',cp',hv'⟩:=row_form R1
 subst hv'
 obtain ⟨ty,b0⟩:=b0
 have x0:=T1.cell (cOf b0 0) id
 have x1:w1.cell? ⟨w.heap.size,1,none⟩=some (.int .i64 dr):=T1.cell (cOf b0 1) id
 have x2:w1.cell? ⟨w.heap.size,2,none⟩=some (.int .i64 bu):=T1.cell (cOf b0 2) id
 have x3:w1.cell? ⟨w.heap.size,3,none⟩=some (.int .i64 en):=T1.cell (cOf b0 3) id
 have x4:w1.cell? ⟨w.heap.size,4,none⟩=some (.int .i64 wa):=T1.cell (cOf b0 4) id
 have f0:w1.frozen? ⟨w.heap.size,0,none⟩=false:=T1.froz (cOf b0 0) id (fOf b0 0)
 have R:=b1.turn T1 id
 have r0:=peek_some (R.are 0 (by omega))
 have r1:=peek_some (R.are 1 (by omega))
 have r2:=peek_some (R.are 2 (by omega))
 have r3:=peek_some (R.are 3 (by omega))
 have r4:=peek_some (R.are 4 (by omega))
 have g0:=R.free 0
 have g1:=R.free 1
 have g2:=R.free 2
 have g3:=R.free 3
 have g4:=R.free 4
 have T2:=T0.sT T1 (fun _ _ h=>h)
 have HT2:=hide T2
 have HR1:=hide R1
 clear R1 KC HR b1 b0 R T0 T1 T2
 go_wp2
 refine bodyPost_ret (v:= .agg #[.slice a' zs.length cp',.int .i64 dr,.int .i64 bu,.int .i64 en,.int .i64 wa]) (by simp [results,Tryz.results23,go_sem,r0,r1,r2,r3,r4]) rfl ⟨_,rfl,?_,?_⟩
 ·have T2:=uH HT2
  exact (((((T2.sS (Or.inl (Nat.le_refl _))).sS (Or.inl (Nat.le_succ _))).sS (Or.inl (Nat.le_succ _))).sS (Or.inl (Nat.le_succ _))).sS (Or.inl (Nat.le_succ _))).sS (Or.inl (Nat.le_succ _))
 ·refine owns_base (owns_turn (M:=fun k=>k=w.heap.size∨k=w.heap.size+1) (uH HR1) ?_ (fun k hk=>?_)) (by omega)
  ·exact ((((((Turn.refl _ _).sS (Or.inr (Or.inl rfl))).sS (Or.inr (Or.inr rfl))).sS (Or.inr (Or.inr rfl))).sS (Or.inr (Or.inr rfl))).sS (Or.inr (Or.inr rfl))).sS (Or.inr (Or.inr rfl))
  ·have:=((uH HR1).lt k hk).1
   omega
theorem run_makeMap3 (w:World):(Instr.makeMap 74 none).run Tryz.prog w= .ok (.map (some w.heap.size)) (w.alloc (.map #[] 0)):=by kernel_rfl
theorem own7 {own:Own} {τ n a1 a2 a3 a4 a5 a6 a7:Nat} (htop:∀ k,n≤k→own k=none) (hd:[a1,a2,a3,a4,a5,a6,a7].Nodup) (h1:n≤a1) (h2:n≤a2) (h3:n≤a3) (h4:n≤a4) (h5:n≤a5) (h6:n≤a6) (h7:n≤a7) :
    ∃ own':Own,(∀ k,k<n→own' k=own k)∧own' a1=some (τ,1)∧own' a2=some (τ,2)∧own' a3=some (τ,3)∧own' a4=some (τ,4)∧own' a5=some (τ,5)∧own' a6=some (τ,6)∧own' a7=some (τ,13)∧∀ k,n≤k→(k≠a1∧k≠a2∧k≠a3∧k≠a4∧k≠a5∧k≠a6∧k≠a7→own' k=none)∧(own' k≠none→Mine own' τ k):=by
 simp only [List.nodup_cons,List.mem_cons,List.not_mem_nil,or_false,not_or,List.nodup_nil,and_true,not_false_eq_true] at hd
 obtain ⟨⟨d12,d13,d14,d15,d16,d17⟩,⟨d23,d24,d25,d26,d27⟩,⟨d34,d35,d36,d37⟩,⟨d45,d46,d47⟩,⟨d56,d57⟩,d67⟩:=hd
 have e:∀ k,putO (putO (putO (putO (putO (putO (putO own a7 (τ,13)) a6 (τ,6)) a5 (τ,5)) a4 (τ,4)) a3 (τ,3)) a2 (τ,2)) a1 (τ,1) k=if k=a1 then some (τ,1) else if k=a2 then some (τ,2) else if k=a3 then some (τ,3) else if k=a4 then some (τ,4) else if k=a5 then some (τ,5) else if k=a6 then some (τ,6) else if k=a7 then some (τ,13) else own k:=fun k=>rfl
 refine ⟨putO (putO (putO (putO (putO (putO (putO own a7 (τ,13)) a6 (τ,6)) a5 (τ,5)) a4 (τ,4)) a3 (τ,3)) a2 (τ,2)) a1 (τ,1),fun k hk=>?_,?_,?_,?_,?_,?_,?_,?_,fun k hk=>⟨fun hne=>?_,fun hne=>?_⟩⟩
 ·rw [e,if_neg (Nat.ne_of_lt (Nat.lt_of_lt_of_le hk h1)),if_neg (Nat.ne_of_lt (Nat.lt_of_lt_of_le hk h2)),if_neg (Nat.ne_of_lt (Nat.lt_of_lt_of_le hk h3)),if_neg (Nat.ne_of_lt (Nat.lt_of_lt_of_le hk h4)),if_neg (Nat.ne_of_lt (Nat.lt_of_lt_of_le hk h5)),if_neg (Nat.ne_of_lt (Nat.lt_of_lt_of_le hk h6)),if_neg (Nat.ne_of_lt (Nat.lt_of_lt_of_le hk h7))]
 ·rw [e,if_pos rfl]
 ·rw [e,if_neg (fun h=>d12 h.symm),if_pos rfl]
 ·rw [e,if_neg (fun h=>d13 h.symm),if_neg (fun h=>d23 h.symm),if_pos rfl]
 ·rw [e,if_neg (fun h=>d14 h.symm),if_neg (fun h=>d24 h.symm),if_neg (fun h=>d34 h.symm),if_pos rfl]
 ·rw [e,if_neg (fun h=>d15 h.symm),if_neg (fun h=>d25 h.symm),if_neg (fun h=>d35 h.symm),if_neg (fun h=>d45 h.symm),if_pos rfl]
 ·rw [e,if_neg (fun h=>d16 h.symm),if_neg (fun h=>d26 h.symm),if_neg (fun h=>d36 h.symm),if_neg (fun h=>d46 h.symm),if_neg (fun h=>d56 h.symm),if_pos rfl]
 ·rw [e,if_neg (fun h=>d17 h.symm),if_neg (fun h=>d27 h.symm),if_neg (fun h=>d37 h.symm),if_neg (fun h=>d47 h.symm),if_neg (fun h=>d57 h.symm),if_neg (fun h=>d67 h.symm),if_pos rfl]
 ·rw [e,if_neg hne.1,if_neg hne.2.1,if_neg hne.2.2.1,if_neg hne.2.2.2.1,if_neg hne.2.2.2.2.1,if_neg hne.2.2.2.2.2.1,if_neg hne.2.2.2.2.2.2]
  exact htop k hk
 ·unfold Mine
  rw [e] at hne ⊢
  split
  ·exact ⟨_,rfl⟩
  ·split
   ·exact ⟨_,rfl⟩
   ·split
    ·exact ⟨_,rfl⟩
    ·split
     ·exact ⟨_,rfl⟩
     ·split
      ·exact ⟨_,rfl⟩
      ·split
       ·exact ⟨_,rfl⟩
       ·split
        ·exact ⟨_,rfl⟩
        ·next q1 q2 q3 q4 q5 q6 q7 =>
         rw [if_neg q1,if_neg q2,if_neg q3,if_neg q4,if_neg q5,if_neg q6,if_neg q7] at hne
         exact absurd (htop k hk) hne
theorem tier_made {own:Own} {w0 w:World} {τ gp bo bm be bf bq bt:Nat} {c:Conf} {pv:Value} (hok:ConfOK c) (htop:∀ k,w0.heap.size≤k→own k=none) (hsz:w0.heap.size≤w.heap.size)
    (hp:w.ownsRow w0.heap.size 3 1 pv c.parents.length (c.parents.map fun z=> .int .i64 z)) (hgp:pv.ownBlock=some gp)
    (hbo:w.heap[bo]?=some (.cells #[.map (some bm)] 111 (0,0))) (hbm:MapIs Tryz.prog 9 w bm [])
    (hbe:w.heap[be]?=some (.cells #[.int .i64 c.entries,.map (some bf),.slice none 0 0,.slice none 0 0,.slice none 0 0,.slice none 0 0,.slice none 0 0,.slice none 0 0] 116 (0,0))) (hbf:MapIs Tryz.prog 124 w bf []) (hbq:MapIs Tryz.prog 124 w bq [])
    (hbt:w.heap[bt]?=some (.cells #[pv,.int .i64 c.drift,.int .i64 c.budget,.int .i64 c.entries,.int .i64 c.waiters,.pointer (some ⟨bo,0,none⟩),.int .i64 0,.int .i64 0,.int .i64 0,.int .i64 0,.int .i64 0,.int .i64 0,.pointer (some ⟨be,0,none⟩),.map (some bq),.int .i64 0,.slice none 0 0,.slice none 0 0] 77 (0,0)))
    (hd:[bt,gp,bo,bm,be,bf,bq].Nodup) (h1:w0.heap.size≤bt) (h3:w0.heap.size≤bo) (h4:w0.heap.size≤bm) (h5:w0.heap.size≤be) (h6:w0.heap.size≤bf) (h7:w0.heap.size≤bq) :
    ∃ own',TierAt own' τ w bt 0 (Tier.new c)∧(∀ k,k<w0.heap.size→own' k=own k)∧∀ k,w0.heap.size≤k→own' k≠none→Mine own' τ k:=by
 have h2:w0.heap.size≤gp:=(hp.lt gp hgp).1
 have l2:gp<w.heap.size:=(hp.lt gp hgp).2
 obtain ⟨own',k0,o1,o2,o3,o4,o5,o6,o7,k1⟩:=own7 (τ:=τ) htop hd h1 h2 h3 h4 h5 h6 h7
 have l1:=heap_lt hbt
 have l3:=heap_lt hbo
 have l4:=hbm.lt
 have l5:=heap_lt hbe
 have l6:=hbf.lt
 have l7:=hbq.lt
 have nilRow:∀ x e size,Row own' τ x w e size (.slice none 0 0) []:=fun x e size=>⟨World.ownsRow_nil _ _ _ _,fun k hk=>by cases hk⟩
 refine ⟨own',⟨⟨⟨pv,bo,bm,be,bf,bq,fun _=> .slice none 0 0,.slice none 0 0,.slice none 0 0⟩,PS.new c,⟨fun k hk=>(k1 k (Nat.le_trans hsz hk)).1 ⟨(Nat.ne_of_lt (Nat.lt_of_lt_of_le l1 hk)).symm,(Nat.ne_of_lt (Nat.lt_of_lt_of_le l2 hk)).symm,(Nat.ne_of_lt (Nat.lt_of_lt_of_le l3 hk)).symm,(Nat.ne_of_lt (Nat.lt_of_lt_of_le l4 hk)).symm,(Nat.ne_of_lt (Nat.lt_of_lt_of_le l5 hk)).symm,(Nat.ne_of_lt (Nat.lt_of_lt_of_le l6 hk)).symm,(Nat.ne_of_lt (Nat.lt_of_lt_of_le l7 hk)).symm⟩,⟨hbt⟩,o1,⟨?_,fun k hk=>?_⟩,hbo,o3,hbm,o4,hbe,o5,hbf,o6,fun i hi=>nilRow _ _ _,hbq,o7,fun p hp'=>(by cases hp'),nilRow _ _ _,nilRow _ _ _⟩,PS.Sane.new hok,PS.Few.new c,Ref.new hok,RecsOK.new c⟩⟩,k0,fun k hk=>(k1 k hk).2⟩
 ·have hq:=owns_base hp (Nat.zero_le _)
  have e:(List.map (fun n=>[Value.int .i64 n]) c.parents).flatten=c.parents.map fun z=>Value.int .i64 z:=by
    generalize c.parents=zs
    induction zs with
    | nil=>rfl
    | cons z r ih=>simp [ih]
  show w.ownsRow 0 3 1 pv (List.map (fun n=>[Value.int .i64 n]) c.parents).length (List.map (fun n=>[Value.int .i64 n]) c.parents).flatten
  rw [e,List.length_map]
  exact hq
 ·rw [hgp] at hk
  cases hk
  exact o2
theorem Turn.of_below' {w w':World} (h:Below w.heap.size w w'):Turn nO w w':=⟨h.os,h.tape,h.output,h.size,fun k hk _=>h.block k hk⟩
theorem New_ok (own:Own) (τ:Nat) (v:Value) (zs:List Int) (dr bu en wa:Int) (w:World) (h:w.ownsRow 0 3 1 v zs.length (zs.map fun z=> .int .i64 z)) (hc:confB zs dr bu en wa=true) (htop:∀ k,w.heap.size≤k→own k=none) :
    Calls Tryz.prog 10 #[.agg #[v,.int .i64 dr,.int .i64 bu,.int .i64 en,.int .i64 wa]] w fun r w'=>∃ bt own',r= .returned (.tuple #[.pointer (some ⟨bt,0,none⟩),.int .i64 0])∧Turn nO w w'∧w.heap.size≤bt∧TierAt own' τ w' bt 0 (Tier.new ⟨zs,dr,bu,en,wa⟩)∧(∀ k,k<w.heap.size→own' k=own k)∧∀ k,w.heap.size≤k→own' k≠none→Mine own' τ k:=by
 have hok:=confB_parts hc
 have HOK:=hide hok
 have HTOP:=hide htop
 have hz6:zs.length≤6:=hok.len.2
 have hz2:2≤zs.length:=hok.len.1
 obtain ⟨a,cp,hv⟩:=row_form h
 have HR:=hide h
 subst hv
 have KR:=hide (fun w' (h':w'.ownsRow 0 3 1 (.slice a zs.length cp) zs.length (zs.map fun z=> .int .i64 z))=>right_any a cp zs dr bu en wa w' (by unfold maxLen;omega) (sliceAt_owns h' rfl))
 rw [hc] at KR
 have KC:=hide (fun w' (h':w'.ownsRow 0 3 1 (.slice a zs.length cp) zs.length (zs.map fun z=> .int .i64 z))=>Copy_any (.slice a zs.length cp) zs dr bu en wa w' h' (by omega))
 have KO:=hide (fun w'=>ONew_any w')
 have KE:=hide (fun w'=>ENew_any en w')
 have hmk:=run_makeMap3
 have e1:errOf true=0:=rfl
 rw [e1] at KR
 clear h hok htop hc e1
 go_enter Tryz.func10,Tryz.ntmps10
 go_wp2_with fail
 generalize hW:World.alloc _ _=W0
 have T0:Turn nO w W0:=by rw [← hW];exact Turn.alloc _ _ _
 have b0:∃ ty,W0.heap[w.heap.size]?=some (.cells #[.slice a zs.length cp,.int .i64 dr,.int .i64 bu,.int .i64 en,.int .i64 wa] ty (0,0)):=by rw [← hW];exact ⟨_,new1_0 _ _⟩
 clear hW
 refine (uH KR W0 (owns_turn (uH HR) T0 (fun _ _ h=>h))).mono ?_
 rintro e w1 ⟨rfl,B1⟩
 have T1:=Turn.of_below' B1
 obtain ⟨ty,b0⟩:=b0
 have x0:=T1.cell (cOf b0 0) id
 have x1:w1.cell? ⟨w.heap.size,1,none⟩=some (.int .i64 dr):=T1.cell (cOf b0 1) id
 have x2:w1.cell? ⟨w.heap.size,2,none⟩=some (.int .i64 bu):=T1.cell (cOf b0 2) id
 have x3:w1.cell? ⟨w.heap.size,3,none⟩=some (.int .i64 en):=T1.cell (cOf b0 3) id
 have x4:w1.cell? ⟨w.heap.size,4,none⟩=some (.int .i64 wa):=T1.cell (cOf b0 4) id
 have x0:w1.cell? ⟨w.heap.size,0,none⟩=some (.slice a zs.length cp):=x0
 have T01:=T0.sT T1 (fun _ _ h=>h)
 have HR1:=hide (owns_turn (uH HR) T01 (fun _ _ h=>h))
 have HT01:=hide T01
 have hlt1:w.heap.size<w1.heap.size:=cell_lt x0
 clear B1 T1 b0 T0 T01 KR
 go_wp2
 have HS:=fun w' (T:Turn nO w1 w')=>And.intro T (And.intro (T.cell x0 id) (And.intro (T.cell x1 id) (And.intro (T.cell x2 id) (And.intro (T.cell x3 id) (T.cell x4 id)))))
 go_region_held3 (fun w'=>Turn nO w1 w'∧w'.cell? ⟨w.heap.size,0,none⟩=some (.slice a zs.length cp)∧w'.cell? ⟨w.heap.size,1,none⟩=some (.int .i64 dr)∧w'.cell? ⟨w.heap.size,2,none⟩=some (.int .i64 bu)∧w'.cell? ⟨w.heap.size,3,none⟩=some (.int .i64 en)∧w'.cell? ⟨w.heap.size,4,none⟩=some (.int .i64 wa)) ((go_split_ands;apply HS;all_goals (repeat (first|(with_reducible first|assumption|exact Turn.refl _ _|apply Turn.sA|apply Turn.sD|refine tN ?_ (by assumption))|((with_reducible refine Turn.sS ?_ ?_);rotate_left;· first|exact Or.inr rfl|exact Or.inr (Or.inl rfl)|exact Or.inl (by simp <;> omega))|(with_reducible refine tG ?_ (by assumption))|(with_reducible first|apply There.drew|apply There.set|refine hNo ?_ (by assumption))|assumption)))) (first|(go_at_call 23;go_split_ands;refine (uH KC _ (owns_turn (uH HR1) (by assumption) (fun _ _ h=>h))).mono ?_;rintro e w7 ⟨pv,rfl,T7,R7⟩;obtain ⟨pa,pc,hpv⟩:=row_form R7;subst hpv)|(go_at_call 24;go_split_ands;refine (uH KO _).mono ?_;rintro e w8 ⟨bo,bm,rfl,T8,D8,O8,M8⟩)|(go_at_call 25;go_split_ands;refine (uH KE _).mono ?_;rintro e w9 ⟨be,bf,rfl,T9,D9,O9,M9⟩))
 all_goals go_split_ands
 all_goals clear HS KC KO KE
 ·have l7:=R7.lt
  obtain ⟨gp,hgp⟩:∃ gp,(Value.slice pa zs.length pc).ownBlock=some gp:=by
    obtain ⟨_,⟨_,h0⟩|⟨g,cap,cur,hv,_⟩⟩:=R7
    ·omega
    ·cases hv;exact ⟨_,rfl⟩
  have lg:=l7 gp hgp
  have z01:=(uH HT01).size
  have za:=fun (W:World)=>show (W.alloc (.map #[] 0)).heap.size=W.heap.size+1 by simp
  have zb:=fun (W:World)=>show (W.alloc (.map #[] 0)).drew.heap.size=W.heap.size+1 by show (W.alloc (.map #[] 0)).heap.size=_;simp
  have zc:=fun (W:World)=>show W.drew.heap.size=W.heap.size from rfl
  have ha1:=za w1
  have ha7:=za w7
  have ha8:=za w8
  have ha9:=za w9
  have hb1:=zb w1
  have hc1:=zc w1
  have z7:=T7.size
  have z8:=T8.size
  have z9:=T9.size
  have y8:=heap_lt O8
  have y8':=M8.lt
  have y9:=heap_lt O9
  have y9':=M9.lt
  clear za zb zc l7
  go_wp2
  refine bodyPost_ret (v:= .tuple #[.pointer (some ⟨w9.heap.size+1,0,none⟩),.int .i64 0]) (by simp [results,Tryz.results10,go_sem]) rfl ?_
  generalize hF:World.alloc _ _=F
  have TF9:Turn nO w9 F:=by rw [← hF];exact (Turn.alloc nO w9 (.map #[] 0)).sA
  have TF8:=T9.sT TF9 (fun _ _ h=>h)
  have TF7:=T8.sT TF8 (fun _ _ h=>h)
  have TF:=(uH HT01).sT ((Turn.drew nO w1).sT (T7.sT TF7 (fun _ _ h=>h)) (fun _ _ h=>h)) (fun _ _ h=>h)
  have MQ:MapIs Tryz.prog 124 F w9.heap.size []:=by rw [← hF];exact (MapIs.made Tryz.prog 124 w9).heap ((Turn.alloc nO (w9.alloc (.map #[] 0)) _).block _ (by simp) id)
  have HBT:F.heap[w9.heap.size+1]?=some (.cells #[.slice pa zs.length pc,.int .i64 dr,.int .i64 bu,.int .i64 en,.int .i64 wa,.pointer (some ⟨bo,0,none⟩),.int .i64 0,.int .i64 0,.int .i64 0,.int .i64 0,.int .i64 0,.int .i64 0,.pointer (some ⟨be,0,none⟩),.map (some w9.heap.size),.int .i64 0,.slice none 0 0,.slice none 0 0] 77 (0,0)):=by rw [← hF];exact new2_1 _ _ _
  obtain ⟨own',A,B,C⟩:=tier_made (own:=own) (τ:=τ) (w0:=w) (c:=⟨zs,dr,bu,en,wa⟩) (uH HOK) (uH HTOP) TF.size (owns_base (owns_turn R7 TF7 (fun _ _ h=>h)) (by omega)) hgp ((TF8.block _ y8 id).trans O8) (M8.heap (TF8.block _ y8' id)) ((TF9.block _ y9 id).trans O9) (M9.heap (TF9.block _ y9' id)) MQ HBT
    (by simp only [List.nodup_cons,List.mem_cons,List.not_mem_nil,or_false,not_or,List.nodup_nil,and_true,not_false_eq_true];refine ⟨⟨?_,?_,?_,?_,?_,?_⟩,⟨?_,?_,?_,?_,?_⟩,⟨?_,?_,?_,?_⟩,⟨?_,?_,?_⟩,⟨?_,?_⟩,?_⟩ <;> omega) (by omega) (by omega) (by omega) (by omega) (by omega) (by omega)
  exact ⟨_,own',rfl,TF,by omega,A,B,C⟩
 ·have l7:=R7.lt
  obtain ⟨gp,hgp⟩:∃ gp,(Value.slice pa zs.length pc).ownBlock=some gp:=by
    obtain ⟨_,⟨_,h0⟩|⟨g,cap,cur,hv,_⟩⟩:=R7
    ·omega
    ·cases hv;exact ⟨_,rfl⟩
  have lg:=l7 gp hgp
  have z01:=(uH HT01).size
  have za:=fun (W:World)=>show (W.alloc (.map #[] 0)).heap.size=W.heap.size+1 by simp
  have zb:=fun (W:World)=>show (W.alloc (.map #[] 0)).drew.heap.size=W.heap.size+1 by show (W.alloc (.map #[] 0)).heap.size=_;simp
  have zc:=fun (W:World)=>show W.drew.heap.size=W.heap.size from rfl
  have ha1:=za w1
  have ha7:=za w7
  have ha8:=za w8
  have ha9:=za w9
  have hb1:=zb w1
  have hc1:=zc w1
  have z7:=T7.size
  have z8:=T8.size
  have z9:=T9.size
  have y8:=heap_lt O8
  have y8':=M8.lt
  have y9:=heap_lt O9
  have y9':=M9.lt
  clear za zb zc l7
  go_wp2
  refine bodyPost_ret (v:= .tuple #[.pointer (some ⟨w9.heap.size,0,none⟩),.int .i64 0]) (by simp [results,Tryz.results10,go_sem]) rfl ?_
  generalize hF:World.alloc _ _=F
  have TF9:Turn nO w9 F:=by rw [← hF];exact Turn.alloc nO w9 _
  have TFM:=T9.sT TF9 (fun _ _ h=>h)
  have TF8:=(Turn.alloc nO w8 (.map #[] 0)).sT TFM (fun _ _ h=>h)
  have TF7:=T8.sT TF8 (fun _ _ h=>h)
  have TF:=(uH HT01).sT ((Turn.drew nO w1).sT (T7.sT TF7 (fun _ _ h=>h)) (fun _ _ h=>h)) (fun _ _ h=>h)
  have MQ:=(MapIs.made Tryz.prog 124 w8).heap (TFM.block _ (by simp) id)
  have HBT:F.heap[w9.heap.size]?=some (.cells #[.slice pa zs.length pc,.int .i64 dr,.int .i64 bu,.int .i64 en,.int .i64 wa,.pointer (some ⟨bo,0,none⟩),.int .i64 0,.int .i64 0,.int .i64 0,.int .i64 0,.int .i64 0,.int .i64 0,.pointer (some ⟨be,0,none⟩),.map (some w8.heap.size),.int .i64 0,.slice none 0 0,.slice none 0 0] 77 (0,0)):=by rw [← hF];exact new1_0 _ _
  obtain ⟨own',A,B,C⟩:=tier_made (own:=own) (τ:=τ) (w0:=w) (c:=⟨zs,dr,bu,en,wa⟩) (uH HOK) (uH HTOP) TF.size (owns_base (owns_turn R7 TF7 (fun _ _ h=>h)) (by omega)) hgp ((TF8.block _ y8 id).trans O8) (M8.heap (TF8.block _ y8' id)) ((TF9.block _ y9 id).trans O9) (M9.heap (TF9.block _ y9' id)) MQ HBT
    (by simp only [List.nodup_cons,List.mem_cons,List.not_mem_nil,or_false,not_or,List.nodup_nil,and_true,not_false_eq_true];refine ⟨⟨?_,?_,?_,?_,?_,?_⟩,⟨?_,?_,?_,?_,?_⟩,⟨?_,?_,?_,?_⟩,⟨?_,?_,?_⟩,⟨?_,?_⟩,?_⟩ <;> omega) (by omega) (by omega) (by omega) (by omega) (by omega) (by omega)
  exact ⟨_,own',rfl,TF,by omega,A,B,C⟩
 ·have l7:=R7.lt
  obtain ⟨gp,hgp⟩:∃ gp,(Value.slice pa zs.length pc).ownBlock=some gp:=by
    obtain ⟨_,⟨_,h0⟩|⟨g,cap,cur,hv,_⟩⟩:=R7
    ·omega
    ·cases hv;exact ⟨_,rfl⟩
  have lg:=l7 gp hgp
  have z01:=(uH HT01).size
  have za:=fun (W:World)=>show (W.alloc (.map #[] 0)).heap.size=W.heap.size+1 by simp
  have zb:=fun (W:World)=>show (W.alloc (.map #[] 0)).drew.heap.size=W.heap.size+1 by show (W.alloc (.map #[] 0)).heap.size=_;simp
  have zc:=fun (W:World)=>show W.drew.heap.size=W.heap.size from rfl
  have ha1:=za w1
  have ha7:=za w7
  have ha8:=za w8
  have ha9:=za w9
  have hb1:=zb w1
  have hc1:=zc w1
  have z7:=T7.size
  have z8:=T8.size
  have z9:=T9.size
  have y8:=heap_lt O8
  have y8':=M8.lt
  have y9:=heap_lt O9
  have y9':=M9.lt
  clear za zb zc l7
  go_wp2
  refine bodyPost_ret (v:= .tuple #[.pointer (some ⟨w9.heap.size,0,none⟩),.int .i64 0]) (by simp [results,Tryz.results10,go_sem]) rfl ?_
  generalize hF:World.alloc _ _=F
  have TF9:Turn nO w9 F:=by rw [← hF];exact Turn.alloc nO w9 _
  have TF8:=T9.sT TF9 (fun _ _ h=>h)
  have TFM:=T8.sT TF8 (fun _ _ h=>h)
  have TF7:=(Turn.alloc nO w7 (.map #[] 0)).sT TFM (fun _ _ h=>h)
  have TF:=(uH HT01).sT ((Turn.drew nO w1).sT (T7.sT TF7 (fun _ _ h=>h)) (fun _ _ h=>h)) (fun _ _ h=>h)
  have MQ:=(MapIs.made Tryz.prog 124 w7).heap (TFM.block _ (by simp) id)
  have HBT:F.heap[w9.heap.size]?=some (.cells #[.slice pa zs.length pc,.int .i64 dr,.int .i64 bu,.int .i64 en,.int .i64 wa,.pointer (some ⟨bo,0,none⟩),.int .i64 0,.int .i64 0,.int .i64 0,.int .i64 0,.int .i64 0,.int .i64 0,.pointer (some ⟨be,0,none⟩),.map (some w7.heap.size),.int .i64 0,.slice none 0 0,.slice none 0 0] 77 (0,0)):=by rw [← hF];exact new1_0 _ _
  obtain ⟨own',A,B,C⟩:=tier_made (own:=own) (τ:=τ) (w0:=w) (c:=⟨zs,dr,bu,en,wa⟩) (uH HOK) (uH HTOP) TF.size (owns_base (owns_turn R7 TF7 (fun _ _ h=>h)) (by omega)) hgp ((TF8.block _ y8 id).trans O8) (M8.heap (TF8.block _ y8' id)) ((TF9.block _ y9 id).trans O9) (M9.heap (TF9.block _ y9' id)) MQ HBT
    (by simp only [List.nodup_cons,List.mem_cons,List.not_mem_nil,or_false,not_or,List.nodup_nil,and_true,not_false_eq_true];refine ⟨⟨?_,?_,?_,?_,?_,?_⟩,⟨?_,?_,?_,?_,?_⟩,⟨?_,?_,?_,?_⟩,⟨?_,?_,?_⟩,⟨?_,?_⟩,?_⟩ <;> omega) (by omega) (by omega) (by omega) (by omega) (by omega) (by omega)
  exact ⟨_,own',rfl,TF,by omega,A,B,C⟩
 ·have l7:=R7.lt
  obtain ⟨gp,hgp⟩:∃ gp,(Value.slice pa zs.length pc).ownBlock=some gp:=by
    obtain ⟨_,⟨_,h0⟩|⟨g,cap,cur,hv,_⟩⟩:=R7
    ·omega
    ·cases hv;exact ⟨_,rfl⟩
  have lg:=l7 gp hgp
  have z01:=(uH HT01).size
  have za:=fun (W:World)=>show (W.alloc (.map #[] 0)).heap.size=W.heap.size+1 by simp
  have zb:=fun (W:World)=>show (W.alloc (.map #[] 0)).drew.heap.size=W.heap.size+1 by show (W.alloc (.map #[] 0)).heap.size=_;simp
  have zc:=fun (W:World)=>show W.drew.heap.size=W.heap.size from rfl
  have ha1:=za w1
  have ha7:=za w7
  have ha8:=za w8
  have ha9:=za w9
  have hb1:=zb w1
  have hc1:=zc w1
  have z7:=T7.size
  have z8:=T8.size
  have z9:=T9.size
  have y8:=heap_lt O8
  have y8':=M8.lt
  have y9:=heap_lt O9
  have y9':=M9.lt
  clear za zb zc l7
  go_wp2
  refine bodyPost_ret (v:= .tuple #[.pointer (some ⟨w9.heap.size,0,none⟩),.int .i64 0]) (by simp [results,Tryz.results10,go_sem]) rfl ?_
  generalize hF:World.alloc _ _=F
  have TF9:Turn nO w9 F:=by rw [← hF];exact Turn.alloc nO w9 _
  have TF8:=T9.sT TF9 (fun _ _ h=>h)
  have TF7:=T8.sT TF8 (fun _ _ h=>h)
  have TFM:=(Turn.drew nO (w1.alloc (.map #[] 0))).sT (T7.sT TF7 (fun _ _ h=>h)) (fun _ _ h=>h)
  have TF:=(uH HT01).sT ((Turn.alloc nO w1 (.map #[] 0)).sT TFM (fun _ _ h=>h)) (fun _ _ h=>h)
  have MQ:=(MapIs.made Tryz.prog 124 w1).heap (TFM.block _ (by simp) id)
  have HBT:F.heap[w9.heap.size]?=some (.cells #[.slice pa zs.length pc,.int .i64 dr,.int .i64 bu,.int .i64 en,.int .i64 wa,.pointer (some ⟨bo,0,none⟩),.int .i64 0,.int .i64 0,.int .i64 0,.int .i64 0,.int .i64 0,.int .i64 0,.pointer (some ⟨be,0,none⟩),.map (some w1.heap.size),.int .i64 0,.slice none 0 0,.slice none 0 0] 77 (0,0)):=by rw [← hF];exact new1_0 _ _
  obtain ⟨own',A,B,C⟩:=tier_made (own:=own) (τ:=τ) (w0:=w) (c:=⟨zs,dr,bu,en,wa⟩) (uH HOK) (uH HTOP) TF.size (owns_base (owns_turn R7 TF7 (fun _ _ h=>h)) (by omega)) hgp ((TF8.block _ y8 id).trans O8) (M8.heap (TF8.block _ y8' id)) ((TF9.block _ y9 id).trans O9) (M9.heap (TF9.block _ y9' id)) MQ HBT
    (by simp only [List.nodup_cons,List.mem_cons,List.not_mem_nil,or_false,not_or,List.nodup_nil,and_true,not_false_eq_true];refine ⟨⟨?_,?_,?_,?_,?_,?_⟩,⟨?_,?_,?_,?_,?_⟩,⟨?_,?_,?_,?_⟩,⟨?_,?_,?_⟩,⟨?_,?_⟩,?_⟩ <;> omega) (by omega) (by omega) (by omega) (by omega) (by omega) (by omega)
  exact ⟨_,own',rfl,TF,by omega,A,B,C⟩
end
section
open Go.RowKit
open Tier (Mes Ans Conf)
attribute [local go_sem ↓] Go.wp_at_zero Go.wp_at_succ
theorem flat_strs:∀ (l:List ByteArray),(l.map fun k=>[Value.string k]).flatten=l.map fun k=>Value.string k
  | []=>rfl
  | a :: r=>by
    rw [List.map_cons,List.map_cons,List.flatten_cons,flat_strs r]
    rfl
theorem Keys_any (own:Own) (τ bt:Nat) (g:Gh) (s:PS) (n:Nat) (w:World) (h:Lies own τ w bt g s) (hn:n<6) (hl:(s.used n).length≤1000) :
    Calls Tryz.prog 64 #[.pointer (some ⟨g.be,0,none⟩),.int .i64 (n:Int)] w fun r w'=>∃ v',r= .returned v'∧Turn nO w w'∧w'.ownsRow w.heap.size 9 1 v' (s.used n).length ((s.used n).map fun k=> .string k):=by
 have hrow:=(h.used n hn).row
 have dn:=h.usedCell hn
 have hfl:=flat_strs (s.used n)
 rw [List.length_map,hfl] at hrow
 have KC:=hide (fun w' (T:Turn nO w w')=>Clone_str (g.u n) (s.used n).length ((s.used n).map fun k=>Value.string k) w' (by
   have h2:=((h.turn T).used n hn).row
   rw [List.length_map,hfl] at h2
   exact h2) (by intro u hu;obtain ⟨x,_,rfl⟩:=List.mem_map.1 hu;rfl) (by omega))
 generalize g.u n=uv at *
 have hbe:g.be<w.heap.size:=heap_lt h.ents
 clear h hrow hfl
 generalize (s.used n).length=m at *
 generalize (s.used n).map (fun k=>Value.string k)=xs at *
 have i0:(0:Int)≤(n:Int):=by omega
 have i1:(n:Int)<6:=by omega
 go_enter Tryz.func64,Tryz.ntmps64
 go_wp2_with fail
 refine (uH KC w (Turn.refl _ _)).mono ?_
 rintro e w1 ⟨v',rfl,T1,R1⟩
 have HT:=hide T1
 have HR:=hide R1
 clear T1 R1 KC
 go_wp2
 go_ret
 exact ⟨_,rfl,uH HT,uH HR⟩
end
end Go.Proofs.YtpdkojgepagbnaaGreatDoor
