/-
  A cache's clock.
  An entry is stored in the place of another.
  One more key among those used: what then lies in memory.
  An entry is stored where there was none.
  An entry is stored.
-/
import Derived.Test.YtpdkojgepagbnaaGreatDoorJ14
import Derived.RegionTactic
namespace Go.Proofs.YtpdkojgepagbnaaGreatDoor
set_option maxRecDepth 100000
set_option maxHeartbeats 8000000
section
open Go.RowKit
open Tier (Mes Ans Conf)
attribute [local go_sem ↓] Go.wp_at_zero Go.wp_at_succ
theorem Clock_node (own:Own) (τ bt:Nat) (g:Gh) (s:PS) (i r:Int) (w:World) (h:Lies own τ w bt g s) (hp:s.c.parents.length≤6) (hc:Nums.inB i 1 ((s.c.parents.length:Int) - 1)=false) :
    Calls Tryz.prog 41 #[.pointer (some ⟨bt,0,none⟩),.int .i64 i,.int .i64 r] w fun e w'=>e= .returned (.int .i64 2)∧w'=w:=by
 have KC:=hide (isCache_any own τ bt g s i w h hp)
 rw [hc] at KC
 clear h hc hp
 go_enter Tryz.func41,Tryz.ntmps41
 go_wp2_with fail
 refine (uH KC).mono ?_
 rintro e w1 ⟨rfl,rfl⟩
 go_wp2
 go_ret
 exact ⟨rfl,rfl⟩
theorem Clock_time (own:Own) (τ bt:Nat) (g:Gh) (s:PS) (i r:Int) (w:World) (h:Lies own τ w bt g s) (hp:s.c.parents.length≤6) (hc:Nums.inB i 1 ((s.c.parents.length:Int) - 1)=true) (hr:Nums.inB r 0 1099511627776=false) :
    Calls Tryz.prog 41 #[.pointer (some ⟨bt,0,none⟩),.int .i64 i,.int .i64 r] w fun e w'=>e= .returned (.int .i64 5)∧w'=w:=by
 have KC:=hide (isCache_any own τ bt g s i w h hp)
 rw [hc] at KC
 have KW:=hide (fun w=>within_any r 0 1099511627776 w)
 rw [hr] at KW
 clear h hc hp hr
 go_enter Tryz.func41,Tryz.ntmps41
 go_wp2_with fail
 refine (uH KC).mono ?_
 rintro e w1 ⟨rfl,rfl⟩
 go_wp2_with fail
 refine (uH KW _).mono ?_
 rintro e w1 ⟨rfl,rfl⟩
 go_wp2
 go_ret
 exact ⟨rfl,rfl⟩
theorem Clock_ok (own:Own) (τ bt:Nat) (g:Gh) (s:PS) (n:Nat) (r:Int) (w:World) (h:Lies own τ w bt g s) (hp:s.c.parents.length≤6) (hc:Nums.inB (n:Int) 1 ((s.c.parents.length:Int) - 1)=true) (hr:Nums.inB r 0 1099511627776=true) :
    Calls Tryz.prog 41 #[.pointer (some ⟨bt,0,none⟩),.int .i64 (n:Int),.int .i64 r] w fun e w'=>e= .returned (.int .i64 0)∧Lies own τ w' bt g { s with clk:=fun m=>if m=n then max (s.clk n) r else s.clk m }∧Step τ own own w w':=by
 have hn:n<6:=by have:=(Nums.inB_iff ..).1 hc;omega
 have KC:=hide (isCache_any own τ bt g s n w h hp)
 rw [hc] at KC
 have KW:=hide (fun w=>within_any r 0 1099511627776 w)
 rw [hr] at KW
 have d6:w.cell? ⟨bt,6+n,none⟩=some (.int .i64 (s.clk n)):=h.tier.clk hn
 have e6:w.frozen? ⟨bt,6+n,none⟩=false:=fOf h.tier.block _
 have HT:=hide ((h.turn (Turn.drew nO w)).ticked hn (max (s.clk n) r))
 have i0:(0:Int)≤(n:Int):=by omega
 have i1:(n:Int)<6:=by omega
 generalize s.clk n=cn at *
 clear h hc hp hr
 go_enter Tryz.func41,Tryz.ntmps41
 go_wp2_with fail
 refine (uH KC).mono ?_
 rintro e w1 ⟨rfl,rfl⟩
 go_wp2_with fail
 refine (uH KW _).mono ?_
 rintro e w1 ⟨rfl,rfl⟩
 go_wp2
 go_region
 all_goals go_wp2
 all_goals go_ret
 ·first
    | (have e:max cn r=r:=by omega
       rw [e] at HT ⊢
       obtain ⟨L,S⟩:=uH HT
       exact ⟨rfl,L,(Step.of_turn (Turn.drew _ _)).trans S⟩)
    | (have e:max cn r=cn:=by omega
       rw [e] at HT ⊢
       obtain ⟨L,S⟩:=uH HT
       exact ⟨rfl,L,(Step.of_turn (Turn.drew _ _)).trans S⟩)
 ·first
    | (have e:max cn r=r:=by omega
       rw [e] at HT ⊢
       obtain ⟨L,S⟩:=uH HT
       exact ⟨rfl,L,(Step.of_turn (Turn.drew _ _)).trans S⟩)
    | (have e:max cn r=cn:=by omega
       rw [e] at HT ⊢
       obtain ⟨L,S⟩:=uH HT
       exact ⟨rfl,L,(Step.of_turn (Turn.drew _ _)).trans S⟩)
theorem Lies.stored {own:Own} {τ:Nat} {w w':World} {bt:Nat} {g:Gh} {s:PS} (h:Lies own τ w bt g s) {l:List ((Nat × ByteArray) × Ent)} (hm:MapIs Tryz.prog 124 w' g.bf (rawL placeV entV l)) (ht:w.mapTurned w' g.bf) :
    Lies own τ w' bt g { s with found:=l }∧Step τ own own w w':=by
 have hT:=Turn.grown ht.grown
 have F:Fr (fun x=>x=6) own own τ w w':=⟨fun k' hk x hx ho=>⟨hT.block k' hk (fun e=>by cases e;rw [h.foundO] at ho;cases ho;exact hx rfl),rfl⟩⟩
 exact ⟨⟨fun k' hk=>h.top k' (Nat.le_trans hT.size hk),⟨F.block h.tierO (by omega) h.tier.block⟩,h.tierO,F.row h.pars (by omega),F.block h.origO (by omega) h.orig,h.origO,F.map h.recsO (by omega) h.recs,h.recsO,F.block h.entsO (by omega) h.ents,h.entsO,hm,h.foundO,fun i hi=>F.row (h.used i hi) (by omega),F.map h.ftsO (by omega) h.fts,h.ftsO,fun p hp=>F.row (h.waits p hp) (by omega),F.row h.net (by omega),F.row h.ans (by omega)⟩,⟨hT.mono (fun k' _ e=>⟨6,by cases e;exact h.foundO⟩),fun _ _=>Or.inl rfl⟩⟩
theorem Store_has (own:Own) (τ bt:Nat) (g:Gh) (s:PS) (n:Nat) (k:ByteArray) (e0 e:Ent) (w:World) (h:Lies own τ w bt g s) (hf:s.Fine) (hn:n<6) (h2:k.size≤100) (hul:(s.used n).length≤1000) (he:s.entry n k=some e0) :
    Calls Tryz.prog 131 #[.pointer (some ⟨g.be,0,none⟩),placeV (n,k),entV e] w fun r w'=>r= .returned (.tuple #[])∧Lies own τ w' bt g (({ s with found:=aput s.found (n,k) e }:PS).use n k)∧Step τ own own w w':=by
 have HH:=hide h
 have HF:=hide hf
 have htop:Hid (∀ k',w.heap.size≤k'→own k'=none):=h.top
 have d1:w.cell? ⟨g.be,1,none⟩=some (.map (some g.bf)):=cOf h.ents 1
 have hbe:g.be<w.heap.size:=heap_lt h.ents
 have hbf:g.bf<w.heap.size:=h.found.lt
 have hfe:g.bf≠g.be:=fun e=>by have:=h.foundO;rw [e,h.entsO] at this;cases this
 have HK:Hid (∀ w':World,w'.heap[g.bf]?=w.heap[g.bf]?→(Instr.lookup 112 (.map (some g.bf)) (.agg #[.int .i64 (n:Int),.string k]) true).run Tryz.prog w'= .ok (.tuple #[.agg #[.int .i64 e0.ver,.int .i64 e0.pres,.string e0.val,.int .i64 e0.base,.int .i64 e0.since],.bool true]) w'):=fun w' e1=>by
   have:=ent_look (h.found.heap e1) (by omega:n<1000) h2
   rw [show aget s.found (n,k)=some e0 from he] at this
   exact this
 have KU:=hide (fun w (h:Lies own τ w bt g { s with found:=aput s.found (n,k) e })=>Use_any own τ bt g { s with found:=aput s.found (n,k) e } n k w h hn hul)
 clear h hf he
 obtain ⟨ver0,pres0,val0,base0,since0⟩:=e0
 have hev:entV e= .agg #[.int .i64 e.ver,.int .i64 e.pres,.string e.val,.int .i64 e.base,.int .i64 e.since]:=rfl
 rw [hev]
 generalize hver:e.ver=ver
 generalize hpres:e.pres=pres
 generalize hval:e.val=val
 generalize hbase:e.base=base
 generalize hsince:e.since=since
 simp only [placeV] at KU ⊢
 dsimp only at HK
 go_enter Tryz.func131,Tryz.ntmps131
 go_wp2
 generalize hW:World.alloc _ _=W0
 have T0:Turn nO w W0:=by rw [← hW];exact (Turn.alloc _ _ _).sA
 have hsz:W0.heap.size=w.heap.size+1+1:=by rw [← hW];simp
 have x0:∃ ty,W0.heap[w.heap.size]?=some (.cells #[.int .i64 (n:Int),.string k] ty (0,0)):=by rw [← hW];exact ⟨_,new2_0 _ _ _⟩
 obtain ⟨x0_0,x0_1⟩:=eC2 x0
 have x1:∃ ty,W0.heap[w.heap.size+1]?=some (.cells #[.int .i64 ver,.int .i64 pres,.string val,.int .i64 base,.int .i64 since] ty (0,0)):=by rw [← hW];exact ⟨_,new2_1 _ _ _⟩
 obtain ⟨x1_0,x1_1,x1_2,x1_3,x1_4⟩:=eC5 x1
 have c1:=T0.cell d1 id
 have HL:=hide ((uH HH).turn T0)
 clear hW d1
 have HS:=fun w' (T:Turn nO W0 w')=>And.intro T (And.intro (T.cell c1 id) (And.intro (T.cell x0_0 id) (And.intro (T.cell x0_1 id) ((show (Instr.lookup 112 (.map (some g.bf)) (.agg #[.int .i64 (n:Int),.string k]) true).run Tryz.prog w'= .ok (.tuple #[.agg #[.int .i64 ver0,.int .i64 pres0,.string val0,.int .i64 base0,.int .i64 since0],.bool true]) w' from (uH HK _ ((T.block _ (by omega) id).trans (T0.block _ hbf id))))))))
 go_region_held3 (fun w'=>Turn nO W0 w'∧w'.cell? ⟨g.be,1,none⟩=some (.map (some g.bf))∧w'.cell? ⟨w.heap.size,0,none⟩=some (.int .i64 (n:Int))∧w'.cell? ⟨w.heap.size,1,none⟩=some (.string k)∧((Instr.lookup 112 (.map (some g.bf)) (.agg #[.int .i64 (n:Int),.string k]) true).run Tryz.prog w'= .ok (.tuple #[.agg #[.int .i64 ver0,.int .i64 pres0,.string val0,.int .i64 base0,.int .i64 since0],.bool true]) w')) ((go_split_ands;apply HS;all_goals (repeat (first|(with_reducible first|assumption|exact Turn.refl _ _|apply Turn.sA|apply Turn.sD|refine tN ?_ (by assumption))|((with_reducible refine Turn.sS ?_ ?_);rotate_left;· first|exact Or.inr rfl|exact Or.inr (Or.inl rfl)|exact Or.inl (by simp <;> omega))|(with_reducible refine tG ?_ (by assumption))|(with_reducible first|apply There.drew|apply There.set|refine hNo ?_ (by assumption))|assumption)))) (fail)
 all_goals go_split_ands
 all_goals clear HS
 all_goals (
   generalize hX:World.drew _=X
   have TX:Turn nO W0 X:=by rw [← hX];assumption
   clear hX
   have y00:=TX.cell x0_0 id
   have y01:=TX.cell x0_1 id
   have y10:=TX.cell x1_0 id
   have y11:=TX.cell x1_1 id
   have y12:=TX.cell x1_2 id
   have y13:=TX.cell x1_3 id
   have y14:=TX.cell x1_4 id
   have cX:=TX.cell c1 id
   have HLX:=hide ((uH HL).turn TX)
   obtain ⟨kl,hkey⟩:=placeKey (p:=(n,k)) (by omega) h2
   obtain ⟨w2,hrun,hm2,ht2⟩:=map_put (w:=X.drew) ((uH HLX).found.heap rfl) placeKeyed Tryz.underlying112 placeV_inj hkey e (by have:=(uH HF).few.1;unfold maxLen;omega)
   have hgrow:=ht2.grown
   have HE:=hide (((uH HLX).turn (Turn.drew _ _)).stored hm2 ht2)
   rw [hev] at hrun
   simp only [placeV,hver,hpres,hval,hbase,hsince] at hrun
   clear hm2 ht2
   have hq0:Hid (∀ k',some k'=some g.bf→k'<w.heap.size∧k'≠g.be):=fun k' e=>by cases e;exact ⟨hbf,hfe⟩
   go_wp2
   have HS:=fun w' (T:Turn (fun k'=>k'=0∧False∨some k'=some g.bf) X w')=>And.intro T (And.intro (T.cell y00 (fun h=>h.elim (fun e=>e.2) (fun e=>absurd (uH hq0 _ e).1 (by dsimp only;omega)))) (And.intro (T.cell y01 (fun h=>h.elim (fun e=>e.2) (fun e=>absurd (uH hq0 _ e).1 (by dsimp only;omega)))) (And.intro (T.cell y10 (fun h=>h.elim (fun e=>e.2) (fun e=>absurd (uH hq0 _ e).1 (by dsimp only;omega)))) (And.intro (T.cell y11 (fun h=>h.elim (fun e=>e.2) (fun e=>absurd (uH hq0 _ e).1 (by dsimp only;omega)))) (And.intro (T.cell y12 (fun h=>h.elim (fun e=>e.2) (fun e=>absurd (uH hq0 _ e).1 (by dsimp only;omega)))) (And.intro (T.cell y13 (fun h=>h.elim (fun e=>e.2) (fun e=>absurd (uH hq0 _ e).1 (by dsimp only;omega)))) (And.intro (T.cell y14 (fun h=>h.elim (fun e=>e.2) (fun e=>absurd (uH hq0 _ e).1 (by dsimp only;omega)))) ((show w'.cell? ⟨g.be,1,none⟩=some (.map (some g.bf)) from (T.cell cX (fun h=>h.elim (fun e=>e.2) (fun e=>(uH hq0 _ e).2 rfl))))))))))))
   go_region_held3 (fun w'=>Turn (fun k'=>k'=0∧False∨some k'=some g.bf) X w'∧w'.cell? ⟨w.heap.size,0,none⟩=some (.int .i64 (n:Int))∧w'.cell? ⟨w.heap.size,1,none⟩=some (.string k)∧w'.cell? ⟨w.heap.size+1,0,none⟩=some (.int .i64 ver)∧w'.cell? ⟨w.heap.size+1,1,none⟩=some (.int .i64 pres)∧w'.cell? ⟨w.heap.size+1,2,none⟩=some (.string val)∧w'.cell? ⟨w.heap.size+1,3,none⟩=some (.int .i64 base)∧w'.cell? ⟨w.heap.size+1,4,none⟩=some (.int .i64 since)∧(w'.cell? ⟨g.be,1,none⟩=some (.map (some g.bf)))) ((go_split_ands;apply HS;all_goals (repeat (first|(with_reducible first|assumption|exact Turn.refl _ _|apply Turn.sA|apply Turn.sD|refine tN ?_ (by assumption))|((with_reducible refine Turn.sS ?_ ?_);rotate_left;· first|exact Or.inr rfl|exact Or.inr (Or.inl rfl)|exact Or.inl (by simp <;> omega))|(with_reducible refine tG ?_ (by assumption))|(with_reducible first|apply There.drew|apply There.set|refine hNo ?_ (by assumption))|assumption)))) (fail)
   go_split_ands
   clear HS hrun
   go_wp2_with fail
   refine (uH KU w2 (uH HE).1).mono ?_
   rintro r w3 ⟨rfl,L3,S3⟩
   have HG:=hide (And.intro L3 (((Step.of_turn (T0.sT TX (fun _ _ h=>h))).trans ((Step.of_turn (Turn.drew _ _)).trans (uH HE).2)).trans S3))
   clear L3 S3
   go_wp2
   go_end0
   exact ⟨rfl,(uH HG).1,(uH HG).2⟩)
end
section
open Go.RowKit
open Tier (Mes Ans Conf)
def PS.keep (s:PS) (n:Nat) (k:ByteArray):PS:={ s with used:=fun m=>if m=n then s.used n ++ [k] else s.used m }
theorem Lies.kept {own:Own} {τ:Nat} {w w1:World} {bt:Nat} {g:Gh} {s:PS} (h:Lies own τ w bt g s) {n:Nat} (hn:n<6) {k:ByteArray} {gb cap:Nat}
    (hO:w1.ownsRow 0 9 1 (.slice (some ⟨gb,0,none⟩) (((s.used n).map fun k=>[Value.string k]).length+1) cap) (((s.used n).map fun k=>[Value.string k]).length+1) (((s.used n).map fun k=>[Value.string k]).flatten ++ [.string k])) (hg:w.grownBy w1 (g.u n).ownBlock) (hat:(g.u n).ownBlock=some gb∨gb=w.heap.size) (hlt:gb<w1.heap.size) :
    Lies (putO own gb (τ,7+n)) τ (w1.setCell ⟨g.be,2+n,none⟩ (.slice (some ⟨gb,0,none⟩) (((s.used n).map fun k=>[Value.string k]).length+1) cap)) bt (setU g n (.slice (some ⟨gb,0,none⟩) (((s.used n).map fun k=>[Value.string k]).length+1) cap)) (s.keep n k)∧Step τ own (putO own gb (τ,7+n)) w (w1.setCell ⟨g.be,2+n,none⟩ (.slice (some ⟨gb,0,none⟩) (((s.used n).map fun k=>[Value.string k]).length+1) cap)):=by
 generalize hv:Value.slice (some ⟨gb,0,none⟩) (((s.used n).map fun k=>[Value.string k]).length+1) cap=v at *
 have hbel:=heap_lt h.ents
 have hgb:own gb=some (τ,7+n)∨w.heap.size≤gb:=hat.imp (fun h1=>(h.used n hn).mine gb h1) (fun h1=>by omega)
 have hbe:g.be≠gb:=fun e=>by
   rcases hgb with h1|h1
   ·rw [← e,h.entsO] at h1;injection h1 with h1;injection h1 with _ h1;omega
   ·omega
 have hsame:∀ k,k<w.heap.size→putO own gb (τ,7+n) k=own k:=fun k hk=>putO_same hgb hk
 have hblk:∀ k,k<w.heap.size→k≠g.be→some k≠(g.u n).ownBlock→(w1.setCell ⟨g.be,2+n,none⟩ v).heap[k]?=w.heap[k]?:=fun k hk h1 h2=>(hSO h1).trans (hg.block k hk h2)
 have F:Fr (fun x=>x=5∨x=7+n) own (putO own gb (τ,7+n)) τ w (w1.setCell ⟨g.be,2+n,none⟩ v):=by
   refine ⟨fun k hk x hx ho=>⟨hblk k hk ?_ ?_,hsame k hk⟩⟩
   ·rintro rfl;rw [h.entsO] at ho;cases ho;exact hx (Or.inl rfl)
   ·intro e;rw [(h.used n hn).mine k e.symm] at ho;cases ho;exact hx (Or.inr rfl)
 have h1:w1.heap[g.be]?=some (.cells (entsC s g) 116 (0,0)):=(hg.block g.be hbel (fun e=>by have:=(h.used n hn).mine g.be e.symm;rw [h.entsO] at this;injection this with this;injection this with _ this;omega)).trans h.ents
 refine ⟨⟨?_,⟨F.block h.tierO (by omega) h.tier.block⟩,F.own h.tierO (by omega) h.tier.lt,F.row h.pars (by omega),F.block h.origO (by omega) h.orig,F.own h.origO (by omega) (heap_lt h.orig),F.map h.recsO (by omega) h.recs,F.own h.recsO (by omega) h.recs.lt,?_,?_,F.map h.foundO (by omega) h.found,F.own h.foundO (by omega) h.found.lt,
   fun j hj=>?_,F.map h.ftsO (by omega) h.fts,F.own h.ftsO (by omega) h.fts.lt,fun p hp=>F.row (h.waits p hp) (by omega),F.row h.net (by omega),F.row h.ans (by omega)⟩,⟨⟨hg.os,hg.tape,hg.output,by simpa using hg.size,fun k hk hm=>hblk k hk (fun e=>hm ⟨5,by rw [e];exact h.entsO⟩) (fun e=>hm ⟨7+n,(h.used n hn).mine k e.symm⟩)⟩,fun k hk=>Or.inl (hsame k hk)⟩⟩
 ·intro k hk
  have hk1:w1.heap.size≤k:=by simpa using hk
  unfold putO
  rw [if_neg (by omega)]
  exact h.top k (by have:=hg.size;omega)
 ·show (w1.setCell ⟨g.be,2+n,none⟩ v).heap[g.be]?=_
  rw [heap_set h1,entsC_set s g hn]
  rfl
 ·show putO own gb (τ,7+n) g.be=_
  rw [hsame g.be hbel];exact h.entsO
 ·by_cases e:j=n
  ·subst e
   have hr:=row_grown (own:=own) (τ:=τ) (x:=7+j) (w2:=w1.setCell ⟨g.be,2+j,none⟩ v) (hv ▸ hO) (hSO (Ne.symm hbe))
   rw [hv] at hr
   simpa [setU,PS.keep] using hr
  ·have:=F.row (h.used j hj) (by omega)
   simpa [setU,PS.keep,e] using this
def PS.store (s:PS) (n:Nat) (k:ByteArray) (e:Ent):PS :=
  match s.entry n k with
  | some _=>({ s with found:=aput s.found (n,k) e }:PS).use n k
  | none=>({ (s.makeRoom n).keep n k with found:=aput (s.makeRoom n).found (n,k) e }:PS).use n k
end
section
open Go.RowKit
open Tier (Mes Ans Conf)
attribute [local go_sem ↓] Go.wp_at_zero Go.wp_at_succ
theorem Store_none (own:Own) (τ bt:Nat) (g:Gh) (s:PS) (n:Nat) (k:ByteArray) (e:Ent) (w:World) (h:Lies own τ w bt g s) (hf:s.Fine) (hn:n<6) (h2:k.size≤100) (hen:0<s.c.entries) (hul:(s.used n).length≤999) (hks:∀ k∈s.used n,k.size≤100) (he:s.entry n k=none) :
    Calls Tryz.prog 131 #[.pointer (some ⟨g.be,0,none⟩),placeV (n,k),entV e] w fun r w'=>r= .returned (.tuple #[])∧∃ own' g',Lies own' τ w' bt g' (({ (s.makeRoom n).keep n k with found:=aput (s.makeRoom n).found (n,k) e }:PS).use n k)∧Step τ own own' w w'∧g.Like g':=by
 obtain ⟨j0,hi,hz0,hz1,hz2⟩:=info_parts infoStr
 have HH:=hide h
 have HF:=hide (hf.makeRoom n)
 have d1:w.cell? ⟨g.be,1,none⟩=some (.map (some g.bf)):=cOf h.ents 1
 have hbe:g.be<w.heap.size:=heap_lt h.ents
 have hbf:g.bf<w.heap.size:=h.found.lt
 have HK:Hid (∀ w':World,w'.heap[g.bf]?=w.heap[g.bf]?→(Instr.lookup 112 (.map (some g.bf)) (.agg #[.int .i64 (n:Int),.string k]) true).run Tryz.prog w'= .ok (.tuple #[.agg #[.int .i64 0,.int .i64 0,.string ⟨#[]⟩,.int .i64 0,.int .i64 0],.bool false]) w'):=fun w' e1=>by
   have:=ent_look (h.found.heap e1) (by omega:n<1000) h2
   rw [show aget s.found (n,k)=none from he] at this
   exact this
 have hfe:g.bf≠g.be:=fun e=>by have:=h.foundO;rw [e,h.entsO] at this;cases this
 have KM:=hide (fun w (h:Lies own τ w bt g s)=>makeRoom_any own τ bt g s n w h hn hen (by omega) hks)
 have i0:(0:Int)≤(n:Int):=by omega
 have i1:(n:Int)<6:=by omega
 clear h hf he
 have hev:entV e= .agg #[.int .i64 e.ver,.int .i64 e.pres,.string e.val,.int .i64 e.base,.int .i64 e.since]:=rfl
 rw [hev]
 generalize hver:e.ver=ver
 generalize hpres:e.pres=pres
 generalize hval:e.val=val
 generalize hbase:e.base=base
 generalize hsince:e.since=since
 simp only [placeV]
 go_enter Tryz.func131,Tryz.ntmps131
 go_wp2
 generalize hW:World.alloc _ _=W0
 have T0:Turn nO w W0:=by rw [← hW];exact (Turn.alloc _ _ _).sA
 have hsz:W0.heap.size=w.heap.size+1+1:=by rw [← hW];simp
 have x0:∃ ty,W0.heap[w.heap.size]?=some (.cells #[.int .i64 (n:Int),.string k] ty (0,0)):=by rw [← hW];exact ⟨_,new2_0 _ _ _⟩
 obtain ⟨x0_0,x0_1⟩:=eC2 x0
 have x1:∃ ty,W0.heap[w.heap.size+1]?=some (.cells #[.int .i64 ver,.int .i64 pres,.string val,.int .i64 base,.int .i64 since] ty (0,0)):=by rw [← hW];exact ⟨_,new2_1 _ _ _⟩
 obtain ⟨x1_0,x1_1,x1_2,x1_3,x1_4⟩:=eC5 x1
 have c1:=T0.cell d1 id
 have HL:=hide ((uH HH).turn T0)
 clear hW d1
 have HS:=fun w' (T:Turn nO W0 w')=>And.intro T (And.intro (T.cell c1 id) (And.intro (T.cell x0_0 id) (And.intro (T.cell x0_1 id) ((show (Instr.lookup 112 (.map (some g.bf)) (.agg #[.int .i64 (n:Int),.string k]) true).run Tryz.prog w'= .ok (.tuple #[.agg #[.int .i64 0,.int .i64 0,.string ⟨#[]⟩,.int .i64 0,.int .i64 0],.bool false]) w' from (uH HK _ ((T.block _ (by omega) id).trans (T0.block _ hbf id))))))))
 go_region_held3 (fun w'=>Turn nO W0 w'∧w'.cell? ⟨g.be,1,none⟩=some (.map (some g.bf))∧w'.cell? ⟨w.heap.size,0,none⟩=some (.int .i64 (n:Int))∧w'.cell? ⟨w.heap.size,1,none⟩=some (.string k)∧((Instr.lookup 112 (.map (some g.bf)) (.agg #[.int .i64 (n:Int),.string k]) true).run Tryz.prog w'= .ok (.tuple #[.agg #[.int .i64 0,.int .i64 0,.string ⟨#[]⟩,.int .i64 0,.int .i64 0],.bool false]) w')) ((go_split_ands;apply HS;all_goals (repeat (first|(with_reducible first|assumption|exact Turn.refl _ _|apply Turn.sA|apply Turn.sD|refine tN ?_ (by assumption))|((with_reducible refine Turn.sS ?_ ?_);rotate_left;· first|exact Or.inr rfl|exact Or.inr (Or.inl rfl)|exact Or.inl (by simp <;> omega))|(with_reducible refine tG ?_ (by assumption))|(with_reducible first|apply There.drew|apply There.set|refine hNo ?_ (by assumption))|assumption)))) (fail)
 all_goals go_split_ands
 all_goals clear HS
 all_goals (
   generalize hX:World.drew _=X
   have TX:Turn nO W0 X:=by rw [← hX];assumption
   clear hX
   have y00:=TX.cell x0_0 id
   have HLX:=hide ((uH HL).turn TX)
   go_wp2_with fail
   have htopw:=(uH HH).top
   refine (uH KM X (uH HLX)).mono ?_
   rintro r W1 ⟨rfl,g1,L1,S1,GL1⟩
   have T1:=T0.sT TX (fun _ _ h=>h)
   have ho0:own w.heap.size=none:=htopw _ (Nat.le_refl _)
   have ho1:own (w.heap.size+1)=none:=htopw _ (by omega)
   have x0_0:=S1.cell (TX.cell x0_0 id) ho0
   have x0_1:=S1.cell (TX.cell x0_1 id) ho0
   have x1_0:=S1.cell (TX.cell x1_0 id) ho1
   have x1_1:=S1.cell (TX.cell x1_1 id) ho1
   have x1_2:=S1.cell (TX.cell x1_2 id) ho1
   have x1_3:=S1.cell (TX.cell x1_3 id) ho1
   have x1_4:=S1.cell (TX.cell x1_4 id) ho1
   have hsz0:w.heap.size+1+1≤W1.heap.size:=by have:=S1.turn.size;have:=TX.size;omega
   have HS1:=hide (And.intro ((Step.of_turn T1).trans S1) GL1)
   have c16:W1.cell? ⟨g.be,2+n,none⟩=some (g1.u n):=by have:=L1.usedCell hn;rwa [GL1.be] at this
   have f16:W1.frozen? ⟨g.be,2+n,none⟩=false:=by have:=fOf L1.ents (2+n);rwa [GL1.be] at this
   have hNb:Hid (∀ k',some k'=(g1.u n).ownBlock→k'≠w.heap.size∧k'≠w.heap.size+1∧k'≠g.be):=fun k' hk'=>by
     have hm:=(L1.used n hn).mine k' hk'.symm
     refine ⟨fun e=>?_,fun e=>?_,fun e=>?_⟩
     ·rw [e,ho0] at hm;cases hm
     ·rw [e,ho1] at hm;cases hm
     ·rw [e,← GL1.be,L1.entsO] at hm;injection hm with hm;injection hm with _ hm;omega
   have hN:=hide (L1.used n hn).row
   have HL1:=hide L1
   have hml:(((s.makeRoom n).used n).map fun k=>[Value.string k]).length≤999:=by rw [List.length_map];exact Nat.le_trans (s.makeRoom_used n n) hul
   have hul2:(({ (s.makeRoom n).keep n k with found:=aput (s.makeRoom n).found (n,k) e }:PS).used n).length≤1000:=by
     show (if n=n then (s.makeRoom n).used n ++ [k] else _).length≤1000
     rw [if_pos rfl,List.length_append]
     rw [List.length_map] at hml
     simp only [List.length_singleton]
     omega
   have HU2:=hide hul2
   clear hul2
   clear L1 S1 GL1 T1 htopw ho0 ho1 TX HLX y00 T0 hsz HL c1
   rename_i W0' _ _ _
   generalize hW0:W1=W0 at *
   obtain ⟨z,hsz⟩:∃ z,W0.heap.size=z:=⟨_,rfl⟩
   rw [hsz] at hsz0
   have hne0:g.be≠z:=by omega
   have c16a:∀ o,(W0.alloc o).cell? ⟨g.be,2+n,none⟩=some (g1.u n):=fun o=>(Turn.alloc nO W0 o).cell c16 id
   generalize hxs:(((s.makeRoom n).used n).map fun k=>[Value.string k]).flatten=xs at *
   generalize hm:(((s.makeRoom n).used n).map fun k=>[Value.string k]).length=m at *
   have hm1:m+1≤maxLen:=by unfold maxLen;omega
   have hm2:(m+1)*16≤140737488355328:=by omega
   go_wp2
   have HS:=fun w' (T:Turn (fun k'=>k'=g.be∨some k'=(g1.u n).ownBlock) W0 w')=>And.intro T (And.intro (T.cell x0_0 (fun h=>h.elim (fun e=>absurd e (by dsimp only;omega)) (fun e=>absurd (uH hNb _ e) (by dsimp only;omega)))) (And.intro (T.cell x0_1 (fun h=>h.elim (fun e=>absurd e (by dsimp only;omega)) (fun e=>absurd (uH hNb _ e) (by dsimp only;omega)))) (And.intro (T.cell x1_0 (fun h=>h.elim (fun e=>absurd e (by dsimp only;omega)) (fun e=>absurd (uH hNb _ e) (by dsimp only;omega)))) (And.intro (T.cell x1_1 (fun h=>h.elim (fun e=>absurd e (by dsimp only;omega)) (fun e=>absurd (uH hNb _ e) (by dsimp only;omega)))) (And.intro (T.cell x1_2 (fun h=>h.elim (fun e=>absurd e (by dsimp only;omega)) (fun e=>absurd (uH hNb _ e) (by dsimp only;omega)))) (And.intro (T.cell x1_3 (fun h=>h.elim (fun e=>absurd e (by dsimp only;omega)) (fun e=>absurd (uH hNb _ e) (by dsimp only;omega)))) (T.cell x1_4 (fun h=>h.elim (fun e=>absurd e (by dsimp only;omega)) (fun e=>absurd (uH hNb _ e) (by dsimp only;omega))))))))))
   refine wp_region_noPanic ?_
   refine wp_region_held_drew (S:=fun w'=>Turn (fun k'=>k'=g.be∨some k'=(g1.u n).ownBlock) W0 w'∧w'.cell? ⟨w.heap.size,0,none⟩=some (.int .i64 (n:Int))∧w'.cell? ⟨w.heap.size,1,none⟩=some (.string k)∧w'.cell? ⟨w.heap.size+1,0,none⟩=some (.int .i64 ver)∧w'.cell? ⟨w.heap.size+1,1,none⟩=some (.int .i64 pres)∧w'.cell? ⟨w.heap.size+1,2,none⟩=some (.string val)∧w'.cell? ⟨w.heap.size+1,3,none⟩=some (.int .i64 base)∧w'.cell? ⟨w.heap.size+1,4,none⟩=some (.int .i64 since)) (by kernel_rfl) (HS _ ((Turn.refl _ _).sD)) (fun hHeld=>?_)
   refine tkE (i:=0) (v:=?_) rfl ?hy ?_
   case hy=>intro w hSw;(try dsimp only at hSw);go_simp;(try with_reducible rfl)
   (try go_frame)
   refine tkE (i:=1) (v:=?_) rfl ?hy ?_
   case hy=>intro w hSw;(try dsimp only at hSw);go_simp;(try with_reducible rfl)
   (try go_frame)
   refine tkE (i:=2) (v:=?_) rfl ?hy ?_
   case hy=>intro w hSw;(try dsimp only at hSw);go_simp;(try with_reducible rfl)
   (try go_frame)
   refine tkE (i:=3) (v:=?_) rfl ?hy ?_
   case hy=>intro w hSw;(try dsimp only at hSw);go_simp;(try with_reducible rfl)
   (try go_frame)
   refine tkE (i:=4) (v:=?_) rfl ?hy ?_
   case hy=>intro w hSw;(try dsimp only at hSw);go_simp;(try with_reducible rfl)
   (try go_frame)
   refine tkE (i:=5) (v:=?_) rfl ?hy ?_
   case hy=>intro w hSw;(try dsimp only at hSw);go_simp;(try with_reducible rfl)
   (try go_frame)
   refine tkE (i:=6) (v:=?_) rfl ?hy ?_
   case hy=>intro w hSw;(try dsimp only at hSw);go_simp;(try with_reducible rfl)
   (try go_frame)
   refine tkE (i:=7) (v:=?_) rfl ?hy ?_
   case hy=>intro w hSw;(try dsimp only at hSw);go_simp;(try with_reducible rfl)
   (try go_frame)
   refine tkE (i:=8) (v:=?_) rfl ?hy ?_
   case hy=>intro w hSw;(try dsimp only at hSw);go_simp;(try with_reducible rfl)
   (try go_frame)
   refine tkE (i:=10) (v:=?_) rfl ?hy ?_
   case hy=>intro w hSw;(try dsimp only at hSw);go_simp;(try with_reducible rfl)
   (try go_frame)
   refine tkE (i:=11) (v:=?_) rfl ?hy ?_
   case hy=>intro w hSw;(try dsimp only at hSw);go_simp;(try with_reducible rfl)
   (try go_frame)
   refine tkE (i:=14) (v:=?_) rfl ?hy ?_
   case hy=>intro w hSw;(try dsimp only at hSw);go_simp;(try with_reducible rfl)
   (try go_frame)
   refine tkE (i:=15) (v:=?_) rfl ?hy ?_
   case hy=>intro w hSw;(try dsimp only at hSw);go_simp;(try with_reducible rfl)
   (try go_frame)
   refine wpAnyH_ready (rs:=[9,12]) (by kernel_rfl) (by simp) ?_
   refine AllReadyH.cons rfl (fun K hK=>?_) (AllReadyH.cons rfl (fun K hK=>?_) AllReadyH.nil)
   ·go_simp
    refine hK.out _ _ (HS _ ((Turn.refl _ _).sD)) (fun hHeld=>?_)
    clear hK K
    refine wpAnyH_ready (rs:=[12]) (by kernel_rfl) (by simp) ?_
    refine AllReadyH.cons rfl (fun K hK=>?_) AllReadyH.nil
    go_simp
    refine hK.out _ _ (HS _ tAD) (fun hHeld=>?_)
    clear hK K
    refine wpAnyH_ready (rs:=[13]) (by kernel_rfl) (by simp) ?_
    refine AllReadyH.cons rfl (fun K hK=>?_) AllReadyH.nil
    refine step_append_lies _ (by rfl) _ _ _ (by rfl) 0 9 j0 _ 1 16 Tryz.underlying113 hi hz0 hz1 hz2 rfl (by omega) (g1.u n) m xs (by rfl) ((uH hN).alloc _).drew ⟨z,0,none⟩ 1 1 [.string k] (by rfl) (by rfl) (World.news_of_block (cs:=#[.string k]) (t:=9) (fr:=(0,0)) (hsz ▸ heap_alloc_new W0 _)) (by simp [Value.oneCell']) (by omega) hm1 hm2 (by simp) (z+1) (by simp [hsz]) ?_;intro gb cap w1 hown1 hgrow hat hlt;have q16:=far_cell hgrow c16 (fun e=>(uH hNb _ e).2.2 rfl);have q16f:=far_froz hgrow c16 f16 (fun e=>(uH hNb _ e).2.2 rfl)
    refine hK.out _ _ (HS _ (tADG hgrow)) (fun hHeld=>?_)
    clear hK K
    refine tkE (i:=16) (v:=?_) rfl ?hy ?_
    case hy=>intro w hSw;(try dsimp only at hSw);go_simp;(try with_reducible rfl)
    (try go_frame)
    refine wpAnyH_ready (rs:=[17]) (by kernel_rfl) (by simp) ?_
    refine AllReadyH.cons rfl (fun K hK=>?_) AllReadyH.nil
    go_simp
    refine hK.out _ _ (HS _ (tADGS hgrow)) (fun hHeld=>?_)
    clear hK K
    refine wpAnyH_done (by kernel_rfl) ?_ _
    refine NoPanic.normal ?_
    go_split_ands
    clear HS
    go_wp2
    have y00:(w1.setCell ⟨g.be,2+n,none⟩ (.slice (some ⟨gb,0,none⟩) (m+1) cap)).cell? ⟨w.heap.size,0,none⟩=some (.int .i64 (n:Int)):=by assumption
    have y01:(w1.setCell ⟨g.be,2+n,none⟩ (.slice (some ⟨gb,0,none⟩) (m+1) cap)).cell? ⟨w.heap.size,1,none⟩=some (.string k):=by assumption
    have y10:(w1.setCell ⟨g.be,2+n,none⟩ (.slice (some ⟨gb,0,none⟩) (m+1) cap)).cell? ⟨w.heap.size+1,0,none⟩=some (.int .i64 ver):=by assumption
    have y11:(w1.setCell ⟨g.be,2+n,none⟩ (.slice (some ⟨gb,0,none⟩) (m+1) cap)).cell? ⟨w.heap.size+1,1,none⟩=some (.int .i64 pres):=by assumption
    have y12:(w1.setCell ⟨g.be,2+n,none⟩ (.slice (some ⟨gb,0,none⟩) (m+1) cap)).cell? ⟨w.heap.size+1,2,none⟩=some (.string val):=by assumption
    have y13:(w1.setCell ⟨g.be,2+n,none⟩ (.slice (some ⟨gb,0,none⟩) (m+1) cap)).cell? ⟨w.heap.size+1,3,none⟩=some (.int .i64 base):=by assumption
    have y14:(w1.setCell ⟨g.be,2+n,none⟩ (.slice (some ⟨gb,0,none⟩) (m+1) cap)).cell? ⟨w.heap.size+1,4,none⟩=some (.int .i64 since):=by assumption
    generalize hX:w1.setCell ⟨g.be,2+n,none⟩ (.slice (some ⟨gb,0,none⟩) (m+1) cap)=X at y00 y01 y10 y11 y12 y13 y14 ⊢
    obtain ⟨own2,g2,LS,SS,GL2⟩:∃ own2 g2,Lies own2 τ X bt g2 ((s.makeRoom n).keep n k)∧Step τ own own2 w X∧g.Like g2:=by (subst hm;subst hxs;obtain ⟨L,S⟩:=((uH HL1).turn ((Turn.alloc nO W0 _).sD)).kept hn (k:=k) hown1 hgrow (hat.imp id (fun e=>by rw [e];simp [hsz])) hlt;rw [(uH HS1).2.be] at L S;rw [hX] at L S;exact ⟨_,_,L,(uH HS1).1.trans ((Step.of_turn ((Turn.alloc nO W0 _).sD)).trans S),(uH HS1).2.trans (Gh.like_setU _ _ _)⟩)
    have cX:X.cell? ⟨g.be,1,none⟩=some (.map (some g.bf)):=by (have e9:X.cell? ⟨g2.be,1,none⟩=some (.map (some g2.bf)):=cOf LS.ents 1;rw [GL2.be,GL2.bf] at e9;exact e9)
    have hXs:w.heap.size+1+1≤X.heap.size:=by (rw [← hX];have:=hgrow.size;simp at this ⊢;omega)
    clear q16 q16f hown1 hgrow hat hlt c16 c16a f16 hX
    have HLX:=hide LS
    have HSX:=hide (And.intro SS GL2)
    obtain ⟨kl,hkey⟩:=placeKey (p:=(n,k)) (by omega) h2
    obtain ⟨w2,hrun,hm2',ht2⟩:=map_put (w:=X.drew) ((uH HLX).found.heap rfl) placeKeyed Tryz.underlying112 placeV_inj hkey e (by have:=(uH HF).few.1;unfold maxLen;show (s.makeRoom n).found.length+1≤_;omega)
    have HE:=hide (((uH HLX).turn (Turn.drew _ _)).stored hm2' ht2)
    rw [GL2.bf] at hrun ht2
    have hgrow:=ht2.grown
    rw [hev] at hrun
    simp only [placeV,hver,hpres,hval,hbase,hsince] at hrun
    have KU2:=Use_any own2 τ bt g2 _ n k w2 (uH HE).1 hn (uH HU2)
    rw [GL2.be] at KU2
    simp only [placeV] at KU2
    have KU:=hide KU2
    clear hm2' ht2 LS SS GL2 KU2
    have hq0:Hid (∀ k',some k'=some g.bf→k'<w.heap.size∧k'≠g.be):=fun k' e=>by (cases e;exact ⟨hbf,hfe⟩)
    have HS:=fun w' (T:Turn (fun k'=>k'=0∧False∨some k'=some g.bf) X w')=>And.intro T (And.intro (T.cell y00 (fun h=>h.elim (fun e=>e.2) (fun e=>absurd (uH hq0 _ e).1 (by dsimp only;omega)))) (And.intro (T.cell y01 (fun h=>h.elim (fun e=>e.2) (fun e=>absurd (uH hq0 _ e).1 (by dsimp only;omega)))) (And.intro (T.cell y10 (fun h=>h.elim (fun e=>e.2) (fun e=>absurd (uH hq0 _ e).1 (by dsimp only;omega)))) (And.intro (T.cell y11 (fun h=>h.elim (fun e=>e.2) (fun e=>absurd (uH hq0 _ e).1 (by dsimp only;omega)))) (And.intro (T.cell y12 (fun h=>h.elim (fun e=>e.2) (fun e=>absurd (uH hq0 _ e).1 (by dsimp only;omega)))) (And.intro (T.cell y13 (fun h=>h.elim (fun e=>e.2) (fun e=>absurd (uH hq0 _ e).1 (by dsimp only;omega)))) (And.intro (T.cell y14 (fun h=>h.elim (fun e=>e.2) (fun e=>absurd (uH hq0 _ e).1 (by dsimp only;omega)))) ((show w'.cell? ⟨g.be,1,none⟩=some (.map (some g.bf)) from (T.cell cX (fun h=>h.elim (fun e=>e.2) (fun e=>(uH hq0 _ e).2 rfl))))))))))))
    go_region_held3 (fun w'=>Turn (fun k'=>k'=0∧False∨some k'=some g.bf) X w'∧w'.cell? ⟨w.heap.size,0,none⟩=some (.int .i64 (n:Int))∧w'.cell? ⟨w.heap.size,1,none⟩=some (.string k)∧w'.cell? ⟨w.heap.size+1,0,none⟩=some (.int .i64 ver)∧w'.cell? ⟨w.heap.size+1,1,none⟩=some (.int .i64 pres)∧w'.cell? ⟨w.heap.size+1,2,none⟩=some (.string val)∧w'.cell? ⟨w.heap.size+1,3,none⟩=some (.int .i64 base)∧w'.cell? ⟨w.heap.size+1,4,none⟩=some (.int .i64 since)∧(w'.cell? ⟨g.be,1,none⟩=some (.map (some g.bf)))) ((go_split_ands;apply HS;all_goals (repeat (first|(with_reducible first|assumption|exact Turn.refl _ _|apply Turn.sA|apply Turn.sD|refine tN ?_ (by assumption))|((with_reducible refine Turn.sS ?_ ?_);rotate_left;· first|exact Or.inr rfl|exact Or.inr (Or.inl rfl)|exact Or.inl (by simp <;> omega))|(with_reducible refine tG ?_ (by assumption))|(with_reducible first|apply There.drew|apply There.set|refine hNo ?_ (by assumption))|assumption)))) (fail)
    go_split_ands
    clear HS hrun
    go_wp2_with fail
    refine (uH KU).mono ?_
    rintro r w3 ⟨rfl,L3,S3⟩
    have HG:=hide (And.intro L3 (And.intro (((uH HSX).1.trans ((Step.of_turn (Turn.drew _ _)).trans (uH HE).2)).trans S3) (uH HSX).2))
    clear L3 S3
    go_wp2
    go_end0
    exact ⟨rfl,own2,g2,(uH HG).1,(uH HG).2.1,(uH HG).2.2⟩
   ·go_simp
    refine hK.out _ _ (HS _ tAD) (fun hHeld=>?_)
    clear hK K
    refine wpAnyH_ready (rs:=[9]) (by kernel_rfl) (by simp) ?_
    refine AllReadyH.cons rfl (fun K hK=>?_) AllReadyH.nil
    go_simp
    refine hK.out _ _ (HS _ tAD) (fun hHeld=>?_)
    clear hK K
    refine wpAnyH_ready (rs:=[13]) (by kernel_rfl) (by simp) ?_
    refine AllReadyH.cons rfl (fun K hK=>?_) AllReadyH.nil
    refine step_append_lies _ (by rfl) _ _ _ (by rfl) 0 9 j0 _ 1 16 Tryz.underlying113 hi hz0 hz1 hz2 rfl (by omega) (g1.u n) m xs (by rfl) ((uH hN).alloc _).drew ⟨z,0,none⟩ 1 1 [.string k] (by rfl) (by rfl) (World.news_of_block (cs:=#[.string k]) (t:=9) (fr:=(0,0)) (hsz ▸ heap_alloc_new W0 _)) (by simp [Value.oneCell']) (by omega) hm1 hm2 (by simp) (z+1) (by simp [hsz]) ?_;intro gb cap w1 hown1 hgrow hat hlt;have q16:=far_cell hgrow c16 (fun e=>(uH hNb _ e).2.2 rfl);have q16f:=far_froz hgrow c16 f16 (fun e=>(uH hNb _ e).2.2 rfl)
    refine hK.out _ _ (HS _ (tADG hgrow)) (fun hHeld=>?_)
    clear hK K
    refine tkE (i:=16) (v:=?_) rfl ?hy ?_
    case hy=>intro w hSw;(try dsimp only at hSw);go_simp;(try with_reducible rfl)
    (try go_frame)
    refine wpAnyH_ready (rs:=[17]) (by kernel_rfl) (by simp) ?_
    refine AllReadyH.cons rfl (fun K hK=>?_) AllReadyH.nil
    go_simp
    refine hK.out _ _ (HS _ (tADGS hgrow)) (fun hHeld=>?_)
    clear hK K
    refine wpAnyH_done (by kernel_rfl) ?_ _
    refine NoPanic.normal ?_
    go_split_ands
    clear HS
    go_wp2
    have y00:(w1.setCell ⟨g.be,2+n,none⟩ (.slice (some ⟨gb,0,none⟩) (m+1) cap)).cell? ⟨w.heap.size,0,none⟩=some (.int .i64 (n:Int)):=by assumption
    have y01:(w1.setCell ⟨g.be,2+n,none⟩ (.slice (some ⟨gb,0,none⟩) (m+1) cap)).cell? ⟨w.heap.size,1,none⟩=some (.string k):=by assumption
    have y10:(w1.setCell ⟨g.be,2+n,none⟩ (.slice (some ⟨gb,0,none⟩) (m+1) cap)).cell? ⟨w.heap.size+1,0,none⟩=some (.int .i64 ver):=by assumption
    have y11:(w1.setCell ⟨g.be,2+n,none⟩ (.slice (some ⟨gb,0,none⟩) (m+1) cap)).cell? ⟨w.heap.size+1,1,none⟩=some (.int .i64 pres):=by assumption
    have y12:(w1.setCell ⟨g.be,2+n,none⟩ (.slice (some ⟨gb,0,none⟩) (m+1) cap)).cell? ⟨w.heap.size+1,2,none⟩=some (.string val):=by assumption
    have y13:(w1.setCell ⟨g.be,2+n,none⟩ (.slice (some ⟨gb,0,none⟩) (m+1) cap)).cell? ⟨w.heap.size+1,3,none⟩=some (.int .i64 base):=by assumption
    have y14:(w1.setCell ⟨g.be,2+n,none⟩ (.slice (some ⟨gb,0,none⟩) (m+1) cap)).cell? ⟨w.heap.size+1,4,none⟩=some (.int .i64 since):=by assumption
    generalize hX:w1.setCell ⟨g.be,2+n,none⟩ (.slice (some ⟨gb,0,none⟩) (m+1) cap)=X at y00 y01 y10 y11 y12 y13 y14 ⊢
    obtain ⟨own2,g2,LS,SS,GL2⟩:∃ own2 g2,Lies own2 τ X bt g2 ((s.makeRoom n).keep n k)∧Step τ own own2 w X∧g.Like g2:=by (subst hm;subst hxs;obtain ⟨L,S⟩:=((uH HL1).turn ((Turn.alloc nO W0 _).sD)).kept hn (k:=k) hown1 hgrow (hat.imp id (fun e=>by rw [e];simp [hsz])) hlt;rw [(uH HS1).2.be] at L S;rw [hX] at L S;exact ⟨_,_,L,(uH HS1).1.trans ((Step.of_turn ((Turn.alloc nO W0 _).sD)).trans S),(uH HS1).2.trans (Gh.like_setU _ _ _)⟩)
    have cX:X.cell? ⟨g.be,1,none⟩=some (.map (some g.bf)):=by (have e9:X.cell? ⟨g2.be,1,none⟩=some (.map (some g2.bf)):=cOf LS.ents 1;rw [GL2.be,GL2.bf] at e9;exact e9)
    have hXs:w.heap.size+1+1≤X.heap.size:=by (rw [← hX];have:=hgrow.size;simp at this ⊢;omega)
    clear q16 q16f hown1 hgrow hat hlt c16 c16a f16 hX
    have HLX:=hide LS
    have HSX:=hide (And.intro SS GL2)
    obtain ⟨kl,hkey⟩:=placeKey (p:=(n,k)) (by omega) h2
    obtain ⟨w2,hrun,hm2',ht2⟩:=map_put (w:=X.drew) ((uH HLX).found.heap rfl) placeKeyed Tryz.underlying112 placeV_inj hkey e (by have:=(uH HF).few.1;unfold maxLen;show (s.makeRoom n).found.length+1≤_;omega)
    have HE:=hide (((uH HLX).turn (Turn.drew _ _)).stored hm2' ht2)
    rw [GL2.bf] at hrun ht2
    have hgrow:=ht2.grown
    rw [hev] at hrun
    simp only [placeV,hver,hpres,hval,hbase,hsince] at hrun
    have KU2:=Use_any own2 τ bt g2 _ n k w2 (uH HE).1 hn (uH HU2)
    rw [GL2.be] at KU2
    simp only [placeV] at KU2
    have KU:=hide KU2
    clear hm2' ht2 LS SS GL2 KU2
    have hq0:Hid (∀ k',some k'=some g.bf→k'<w.heap.size∧k'≠g.be):=fun k' e=>by (cases e;exact ⟨hbf,hfe⟩)
    have HS:=fun w' (T:Turn (fun k'=>k'=0∧False∨some k'=some g.bf) X w')=>And.intro T (And.intro (T.cell y00 (fun h=>h.elim (fun e=>e.2) (fun e=>absurd (uH hq0 _ e).1 (by dsimp only;omega)))) (And.intro (T.cell y01 (fun h=>h.elim (fun e=>e.2) (fun e=>absurd (uH hq0 _ e).1 (by dsimp only;omega)))) (And.intro (T.cell y10 (fun h=>h.elim (fun e=>e.2) (fun e=>absurd (uH hq0 _ e).1 (by dsimp only;omega)))) (And.intro (T.cell y11 (fun h=>h.elim (fun e=>e.2) (fun e=>absurd (uH hq0 _ e).1 (by dsimp only;omega)))) (And.intro (T.cell y12 (fun h=>h.elim (fun e=>e.2) (fun e=>absurd (uH hq0 _ e).1 (by dsimp only;omega)))) (And.intro (T.cell y13 (fun h=>h.elim (fun e=>e.2) (fun e=>absurd (uH hq0 _ e).1 (by dsimp only;omega)))) (And.intro (T.cell y14 (fun h=>h.elim (fun e=>e.2) (fun e=>absurd (uH hq0 _ e).1 (by dsimp only;omega)))) ((show w'.cell? ⟨g.be,1,none⟩=some (.map (some g.bf)) from (T.cell cX (fun h=>h.elim (fun e=>e.2) (fun e=>(uH hq0 _ e).2 rfl))))))))))))
    go_region_held3 (fun w'=>Turn (fun k'=>k'=0∧False∨some k'=some g.bf) X w'∧w'.cell? ⟨w.heap.size,0,none⟩=some (.int .i64 (n:Int))∧w'.cell? ⟨w.heap.size,1,none⟩=some (.string k)∧w'.cell? ⟨w.heap.size+1,0,none⟩=some (.int .i64 ver)∧w'.cell? ⟨w.heap.size+1,1,none⟩=some (.int .i64 pres)∧w'.cell? ⟨w.heap.size+1,2,none⟩=some (.string val)∧w'.cell? ⟨w.heap.size+1,3,none⟩=some (.int .i64 base)∧w'.cell? ⟨w.heap.size+1,4,none⟩=some (.int .i64 since)∧(w'.cell? ⟨g.be,1,none⟩=some (.map (some g.bf)))) ((go_split_ands;apply HS;all_goals (repeat (first|(with_reducible first|assumption|exact Turn.refl _ _|apply Turn.sA|apply Turn.sD|refine tN ?_ (by assumption))|((with_reducible refine Turn.sS ?_ ?_);rotate_left;· first|exact Or.inr rfl|exact Or.inr (Or.inl rfl)|exact Or.inl (by simp <;> omega))|(with_reducible refine tG ?_ (by assumption))|(with_reducible first|apply There.drew|apply There.set|refine hNo ?_ (by assumption))|assumption)))) (fail)
    go_split_ands
    clear HS hrun
    go_wp2_with fail
    refine (uH KU).mono ?_
    rintro r w3 ⟨rfl,L3,S3⟩
    have HG:=hide (And.intro L3 (And.intro (((uH HSX).1.trans ((Step.of_turn (Turn.drew _ _)).trans (uH HE).2)).trans S3) (uH HSX).2))
    clear L3 S3
    go_wp2
    go_end0
    exact ⟨rfl,own2,g2,(uH HG).1,(uH HG).2.1,(uH HG).2.2⟩)
end
section
open Go.RowKit
open Tier (Mes Ans Conf)
theorem Store_any (own:Own) (τ bt:Nat) (g:Gh) (s:PS) (n:Nat) (k:ByteArray) (e:Ent) (w:World) (h:Lies own τ w bt g s) (hf:s.Fine) (hn:n<6) (h2:k.size≤100) (hen:0<s.c.entries) (hul:(s.used n).length≤999) (hks:∀ k∈s.used n,k.size≤100) :
    Calls Tryz.prog 131 #[.pointer (some ⟨g.be,0,none⟩),placeV (n,k),entV e] w fun r w'=>r= .returned (.tuple #[])∧∃ own' g',Lies own' τ w' bt g' (s.store n k e)∧Step τ own own' w w'∧g.Like g':=by
 unfold PS.store
 cases he:s.entry n k with
 | none=>exact Store_none own τ bt g s n k e w h hf hn h2 hen hul hks he
 | some e0 =>
   refine (Store_has own τ bt g s n k e0 e w h hf hn h2 (by omega) he).mono ?_
   rintro r w' ⟨rfl,L,S⟩
   exact ⟨rfl,own,g,L,S,Gh.Like.refl g⟩
end
end Go.Proofs.YtpdkojgepagbnaaGreatDoor
