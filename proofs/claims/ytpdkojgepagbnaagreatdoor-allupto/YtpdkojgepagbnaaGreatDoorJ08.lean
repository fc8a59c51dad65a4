/-
  Which version a cache has.
  A new fetch is sent.
  A new fetch: for one who begins to wait; or in the place of another, for the same who wait.
  Which node is a cache; who sent a Fetch; the origin's record of a key; the answers are handed out.
  How many wait at a cache: the fetches are gone through in whatever order.
-/
import Derived.Test.YtpdkojgepagbnaaGreatDoorJ07
namespace Go.Proofs.YtpdkojgepagbnaaGreatDoor
set_option maxRecDepth 100000
set_option maxHeartbeats 8000000
section
open Go.RowKit
open Tier (Mes Ans Conf)
attribute [local go_sem ↓] Go.wp_at_zero Go.wp_at_succ
def PS.entry (s:PS) (n:Nat) (k:ByteArray):Option Ent:=aget s.found (n,k)
def PS.tag (s:PS) (n:Nat) (k:ByteArray):Int:=match s.entry n k with|some e=>e.ver|none=>-1
theorem there_new {X w':World} {cs:Array Value} {ty:TypeId} {n b:Nat} (T:Turn nO (X.alloc (.cells cs ty)).drew w') (hb:X.heap.size=b) (hn:n+1≤cs.size):There w' b (n+1):=by
  subst hb
  exact ((There.new rfl hn).drew).turn T id
theorem At_lies {own:Own} {τ bt:Nat} {g:Gh} {s:PS} (n:Nat) (k:ByteArray) (w:World) (h:Lies own τ w bt g s) (h1:n<1000) (h2:k.size≤100) :
    Calls Tryz.prog 65 #[.pointer (some ⟨g.be,0,none⟩),placeV (n,k)] w fun e w'=>e= .returned (.tuple #[entV ((s.entry n k).getD noEnt),.bool (s.entry n k).isSome])∧Turn nO w w' :=
 At_any g.be g.bf s.found n k w (cOf h.ents 1) h.found h1 h2
theorem tag_any (own:Own) (τ bt:Nat) (g:Gh) (s:PS) (n:Nat) (k:ByteArray) (w:World) (h:Lies own τ w bt g s) (h1:n<1000) (h2:k.size≤100) :
    Calls Tryz.prog 124 #[.pointer (some ⟨bt,0,none⟩),placeV (n,k)] w fun r w'=>r= .returned (.int .i64 (s.tag n k))∧Turn nO w w':=by
 have HH:=hide h
 have d12:w.cell? ⟨bt,12,none⟩=some (.pointer (some ⟨g.be,0,none⟩)):=cOf h.tier.block 12
 have KA:=hide (fun w (h:Hid (Lies own τ w bt g s))=>At_lies n k w h h1 h2)
 clear h
 unfold PS.tag
 cases hg:s.entry n k with
 | none =>
   rw [hg] at KA
   simp only [entV,placeV,noEnt,Option.getD,Option.isSome] at KA ⊢
   go_enter Tryz.func124,Tryz.ntmps124
   go_wp2
   generalize hW:World.alloc _ _=W0
   have T0:Turn nO w W0:=by rw [← hW];exact (Turn.alloc _ _ _)
   have hsz:W0.heap.size=w.heap.size+1:=by rw [← hW];simp
   have x0:∃ ty,W0.heap[w.heap.size]?=some (.cells #[.int .i64 (n:Int),.string k] ty (0,0)):=by rw [← hW];exact ⟨_,new1_0 _ _⟩
   obtain ⟨x0_0,x0_1⟩:=eC2 x0
   have c12:=T0.cell d12 id
   have HL:=hide ((uH HH).turn T0)
   clear hW d12
   have HS:=fun w' (T:Turn nO W0 w')=>And.intro T (And.intro (T.cell c12 id) (And.intro (T.cell x0_0 id) (And.intro (T.cell x0_1 id) ((show Hid (Lies own τ w' bt g s) from ((uH HL).turn T))))))
   go_region_held3 (fun w'=>Turn nO W0 w'∧w'.cell? ⟨bt,12,none⟩=some (.pointer (some ⟨g.be,0,none⟩))∧w'.cell? ⟨w.heap.size,0,none⟩=some (.int .i64 (n:Int))∧w'.cell? ⟨w.heap.size,1,none⟩=some (.string k)∧(Hid (Lies own τ w' bt g s))) ((go_split_ands;apply HS;all_goals (repeat (first|(with_reducible first|assumption|exact Turn.refl _ _|apply Turn.sA|apply Turn.sD|refine tN ?_ (by assumption))|((with_reducible refine Turn.sS ?_ ?_);rotate_left;· first|exact Or.inr rfl|exact Or.inr (Or.inl rfl)|exact Or.inl (by simp <;> omega))|(with_reducible refine tG ?_ (by assumption))|(with_reducible first|apply There.drew|apply There.set|refine hNo ?_ (by assumption))|assumption)))) (first|(go_at_call 65;go_split_ands;refine (uH KA _ (by assumption)).mono ?_;rintro e w' ⟨rfl,TC⟩;(try (have TH:=there_new (n:=4) TC hsz (by simp);have q0:=peek_some (TH.are 0 (by omega));have q1:=peek_some (TH.are 1 (by omega));have q2:=peek_some (TH.are 2 (by omega));have q3:=peek_some (TH.are 3 (by omega));have q4:=peek_some (TH.are 4 (by omega));have r0:=TH.free 0;have r1:=TH.free 1;have r2:=TH.free 2;have r3:=TH.free 3;have r4:=TH.free 4))))
   all_goals go_split_ands
   all_goals clear HS
   all_goals go_wp2
   all_goals go_ret
   all_goals exact ⟨rfl,T0.sT (by assumption) (fun _ _ h=>h)⟩
 | some e =>
   obtain ⟨ver,pres,val,base,since⟩:=e
   rw [hg] at KA
   simp only [entV,placeV,Option.getD,Option.isSome] at KA ⊢
   go_enter Tryz.func124,Tryz.ntmps124
   go_wp2
   generalize hW:World.alloc _ _=W0
   have T0:Turn nO w W0:=by rw [← hW];exact (Turn.alloc _ _ _)
   have hsz:W0.heap.size=w.heap.size+1:=by rw [← hW];simp
   have x0:∃ ty,W0.heap[w.heap.size]?=some (.cells #[.int .i64 (n:Int),.string k] ty (0,0)):=by rw [← hW];exact ⟨_,new1_0 _ _⟩
   obtain ⟨x0_0,x0_1⟩:=eC2 x0
   have c12:=T0.cell d12 id
   have HL:=hide ((uH HH).turn T0)
   clear hW d12
   have HS:=fun w' (T:Turn nO W0 w')=>And.intro T (And.intro (T.cell c12 id) (And.intro (T.cell x0_0 id) (And.intro (T.cell x0_1 id) ((show Hid (Lies own τ w' bt g s) from ((uH HL).turn T))))))
   go_region_held3 (fun w'=>Turn nO W0 w'∧w'.cell? ⟨bt,12,none⟩=some (.pointer (some ⟨g.be,0,none⟩))∧w'.cell? ⟨w.heap.size,0,none⟩=some (.int .i64 (n:Int))∧w'.cell? ⟨w.heap.size,1,none⟩=some (.string k)∧(Hid (Lies own τ w' bt g s))) ((go_split_ands;apply HS;all_goals (repeat (first|(with_reducible first|assumption|exact Turn.refl _ _|apply Turn.sA|apply Turn.sD|refine tN ?_ (by assumption))|((with_reducible refine Turn.sS ?_ ?_);rotate_left;· first|exact Or.inr rfl|exact Or.inr (Or.inl rfl)|exact Or.inl (by simp <;> omega))|(with_reducible refine tG ?_ (by assumption))|(with_reducible first|apply There.drew|apply There.set|refine hNo ?_ (by assumption))|assumption)))) (first|(go_at_call 65;go_split_ands;refine (uH KA _ (by assumption)).mono ?_;rintro e w' ⟨rfl,TC⟩;(try (have TH:=there_new (n:=4) TC hsz (by simp);have q0:=peek_some (TH.are 0 (by omega));have q1:=peek_some (TH.are 1 (by omega));have q2:=peek_some (TH.are 2 (by omega));have q3:=peek_some (TH.are 3 (by omega));have q4:=peek_some (TH.are 4 (by omega));have r0:=TH.free 0;have r1:=TH.free 1;have r2:=TH.free 2;have r3:=TH.free 3;have r4:=TH.free 4))))
   all_goals go_split_ands
   all_goals clear HS
   all_goals go_wp2
   all_goals go_ret
   all_goals exact ⟨rfl,T0.sT (by assumption) (fun _ _ h=>h)⟩
def PS.fetch (s:PS) (n:Nat) (k:ByteArray) (tg:Int) (l:List Wt) (v:Value):PS :=
  { s with serial:=s.serial+1,fts:=aput s.fts (n,k) ⟨s.serial+1,s.clk n,l,v⟩,net:=s.net ++ [⟨1,n,s.c.parents.getD n 0,k,s.serial+1,tg,0,0,none8⟩] }
theorem Lies.parent {own:Own} {τ:Nat} {w:World} {bt:Nat} {g:Gh} {s:PS} (h:Lies own τ w bt g s) {n:Nat} (hn:n<s.c.parents.length) :
    ∃ b c,g.pv= .slice (some ⟨b,0,none⟩) s.c.parents.length c∧own b=some (τ,2)∧b<w.heap.size∧w.cell? ⟨b,n,none⟩=some (.int .i64 (s.c.parents.getD n 0)):=by
 have hr:=h.pars.row
 have hm:=h.pars.mine
 have hlt:=hr.lt
 rw [List.length_map] at hr
 have hr':=hr
 obtain ⟨hl,⟨hv,h0⟩|⟨b,cap,cur,hv,_⟩⟩:=hr
 ·omega
 ·rw [hv] at hr'
  refine ⟨b,cap,hv,hm b (by rw [hv];rfl),(hlt b (by rw [hv];rfl)).2,?_⟩
  rw [hr'.cellAt n (by omega)]
  have:=flatten_get (m:=1) (s.c.parents.map fun n=>[Value.int .i64 n]) n 0 [.int .i64 (s.c.parents.getD n 0)] (by intro y hy;obtain ⟨z,_,rfl⟩:=List.mem_map.1 hy;rfl) (by simp [List.getD_eq_getElem?_getD,hn]) (by omega)
  simpa using this
theorem fetch_walk (own own':Own) (τ bt:Nat) (g:Gh) (s:PS) (n:Nat) (k:ByteArray) (tg:Int) (l:List Wt) (va:Option Addr) (vn vc:Nat) (w:World) (h:Lies own τ w bt g s) (hn:n<6) (hk:k.size≤100) (hser:0≤s.serial∧s.serial<1000000000000) (hroom:s.fts.length≤1000000000000) (hlen:s.net.length<1000000000000) (hpar:n<s.c.parents.length)
    (HF:∀ w2,MapIs Tryz.prog 124 w2 g.bq (rawL placeV ftV (aput s.fts (n,k) ⟨s.serial+1,s.clk n,l,.slice va vn vc⟩))→w2.heap[bt]?=some (.cells ({ s.ts g with serial:=s.serial+1 }:TS).cells 77 (0,0)) →
      Turn (fun k'=>k'=bt∨k'=g.bq) w w2→Lies own' τ w2 bt g { s with serial:=s.serial+1,fts:=aput s.fts (n,k) ⟨s.serial+1,s.clk n,l,.slice va vn vc⟩ })
    (HO:∀ k',k'<w.heap.size→own' k'=own k'∨(Mine own τ k'∧(own' k'=none∨Mine own' τ k'))) (HT:∀ k',w.heap.size≤k'→own' k'=none) :
    Calls Tryz.prog 123 #[.pointer (some ⟨bt,0,none⟩),placeV (n,k),.int .i64 tg,.slice va vn vc] w fun r w'=>r= .returned (.tuple #[])∧∃ own2 g2,Lies own2 τ w' bt g2 (s.fetch n k tg l (.slice va vn vc))∧Step τ own own2 w w'∧g.Like g2:=by
 have HH:=hide h
 have KF:=hide (And.intro HF HO)
 have hno2:own' w.heap.size=none:=HT _ (Nat.le_refl _)
 have hbt:bt<w.heap.size:=h.tier.lt
 have hbq:g.bq<w.heap.size:=h.fts.lt
 have hne:g.bq≠bt:=fun e=>by have:=h.ftsO;rw [e,h.tierO] at this;cases this
 have hw1:IntKind.i64.wrap (s.serial+1)=s.serial+1:=by rw [IntKind.wrap_i64];omega
 have HNUM:=hide (And.intro hser (And.intro hroom (And.intro hlen hpar)))
 have i0:(0:Int)≤(n:Int):=by omega
 have i1:(n:Int)<6:=by omega
 have d14:w.cell? ⟨bt,14,none⟩=some (.int .i64 s.serial):=cOf h.tier.block 14
 have e14:w.frozen? ⟨bt,14,none⟩=false:=fOf h.tier.block 14
 clear h HF HO HT hser hroom hlen hpar
 unfold placeV
 dsimp only
 go_enter Tryz.func123,Tryz.ntmps123
 go_wp2
 generalize hW:World.alloc _ _=W0
 have T0:Turn (fun k'=>k'=bt) w W0:=by rw [← hW];exact Turn.sA (Turn.sS (M:=fun k'=>k'=bt) (Turn.refl _ _) (Or.inr rfl))
 have hsz:W0.heap.size=w.heap.size+1:=by rw [← hW];simp
 have hb0:W0.heap[w.heap.size]?=some (.cells #[.int .i64 (n:Int),.string k] 124 (0,0)):=by
   rw [← hW]
   have:=new1_0 (w.setCell ⟨bt,14,none⟩ (.int .i64 (s.serial+1))) (.cells #[.int .i64 (n:Int),.string k] 124 (0,0))
   simpa using this
 have hbT:W0.heap[bt]?=some (.cells ({ s.ts g with serial:=s.serial+1 }:TS).cells 77 (0,0)):=by
   rw [← hW,(MapKept.heap_alloc _ _).2 bt (by simpa using hbt),heap_set (uH HH).tier.block];rfl
 clear hW
 obtain ⟨kl,hkey⟩:=placeKey (p:=(n,k)) (by omega) hk
 have hM0:MapIs Tryz.prog 124 W0.drew g.bq (rawL placeV ftV s.fts):=(uH HH).fts.heap (T0.block _ hbq hne)
 obtain ⟨w2,hrun,hm2,ht2⟩:=map_put hM0 placeKeyed Tryz.underlying74 placeV_inj hkey ⟨s.serial+1,s.clk n,l,.slice va vn vc⟩ (by have:=(uH HNUM).2.1;unfold maxLen;omega)
 have hgrow:=ht2.grown
 simp only [placeV,ftV] at hrun
 have x0:=cOf hb0 0
 have x1:=cOf hb0 1
 have c13:W0.cell? ⟨bt,13,none⟩=some (.map (some g.bq)):=cOf hbT 13
 have c14:W0.cell? ⟨bt,14,none⟩=some (.int .i64 (s.serial+1)):=cOf hbT 14
 have c6:W0.cell? ⟨bt,6+n,none⟩=some (.int .i64 (s.clk n)):=TierIs.clk (t:={ s.ts g with serial:=s.serial+1 }) ⟨hbT⟩ hn
 have hq0:Hid (∀ k',some k'=some g.bq→k'<w.heap.size∧k'≠bt):=fun k' e=>by cases e;exact ⟨hbq,hne⟩
 clear hM0 ht2 d14 e14
 have KM:=hide hm2
 clear hm2
 have HS:∀ w',Turn (fun k'=>k'=0∧False∨some k'=some g.bq) W0 w'→Turn (fun k'=>k'=0∧False∨some k'=some g.bq) W0 w'∧w'.cell? ⟨w.heap.size,0,none⟩=some (.int .i64 (n:Int))∧w'.cell? ⟨w.heap.size,1,none⟩=some (.string k)∧w'.cell? ⟨bt,13,none⟩=some (.map (some g.bq))∧w'.cell? ⟨bt,14,none⟩=some (.int .i64 (s.serial+1))∧w'.cell? ⟨bt,6+n,none⟩=some (.int .i64 (s.clk n)) :=
   fun w' T=>⟨T,T.cell x0 (fun h=>h.elim (fun e=>e.2) (fun e=>absurd (uH hq0 _ e).1 (by dsimp only;omega))),T.cell x1 (fun h=>h.elim (fun e=>e.2) (fun e=>absurd (uH hq0 _ e).1 (by dsimp only;omega))),T.cell c13 (fun h=>h.elim (fun e=>e.2) (fun e=>(uH hq0 _ e).2 rfl)),T.cell c14 (fun h=>h.elim (fun e=>e.2) (fun e=>(uH hq0 _ e).2 rfl)),T.cell c6 (fun h=>h.elim (fun e=>e.2) (fun e=>(uH hq0 _ e).2 rfl))⟩
 go_region_held3 (fun w'=>Turn (fun k'=>k'=0∧False∨some k'=some g.bq) W0 w'∧w'.cell? ⟨w.heap.size,0,none⟩=some (.int .i64 (n:Int))∧w'.cell? ⟨w.heap.size,1,none⟩=some (.string k)∧w'.cell? ⟨bt,13,none⟩=some (.map (some g.bq))∧w'.cell? ⟨bt,14,none⟩=some (.int .i64 (s.serial+1))∧w'.cell? ⟨bt,6+n,none⟩=some (.int .i64 (s.clk n))) ((go_split_ands;apply HS;all_goals (repeat (first|(with_reducible first|assumption|exact Turn.refl _ _|apply Turn.sA|apply Turn.sD|refine tN ?_ (by assumption))|((with_reducible refine Turn.sS ?_ ?_);rotate_left;· first|exact Or.inr rfl|exact Or.inr (Or.inl rfl)|exact Or.inl (by simp <;> omega))|(with_reducible refine tG ?_ (by assumption))|(with_reducible first|apply There.drew|apply There.set|refine hNo ?_ (by assumption))|assumption)))) (fail)
 go_split_ands
 clear HS
 go_wp2
 have hno:own w.heap.size=none:=(uH HH).top _ (Nat.le_refl _)
 have hT2:Turn (fun k'=>k'=bt∨k'=g.bq) w w2:=(T0.mono (fun _ _ h=>Or.inl h)).sD.sT (Turn.grown hgrow) (fun _ _ h=>Or.inr (Option.some.inj h))
 have hb2:w2.heap[bt]?=some (.cells ({ s.ts g with serial:=s.serial+1 }:TS).cells 77 (0,0)):=(hgrow.block bt (by show bt<W0.heap.size;omega) (fun e=>(uH hq0 _ e).2 rfl)).trans hbT
 have HL2:=hide ((uH KF).1 w2 (uH KM) hb2 hT2)
 have HO2:Hid (Step τ own own' w w2):=⟨hT2.mono (fun k' _ h=>h.elim (fun e=>⟨1,by rw [e];exact (uH HH).tierO⟩) (fun e=>⟨13,by rw [e];exact (uH HH).ftsO⟩)),(uH KF).2⟩
 have hs1:w.heap.size<w2.heap.size:=by have:=hgrow.size;have e:W0.drew.heap.size=W0.heap.size:=rfl;omega
 have y0:w2.cell? ⟨w.heap.size,0,none⟩=some (.int .i64 (n:Int)):=(Turn.grown hgrow).cell (w:=W0.drew) x0 (fun e=>absurd (uH hq0 _ e).1 (by dsimp only;omega))
 have y1:w2.cell? ⟨w.heap.size,1,none⟩=some (.string k):=(Turn.grown hgrow).cell (w:=W0.drew) x1 (fun e=>absurd (uH hq0 _ e).1 (by dsimp only;omega))
 obtain ⟨pb,pc,hpv,hpo,hpb,hpc⟩:=(uH HL2).parent (n:=n) (uH HNUM).2.2.2
 dsimp only at hpv hpo hpb hpc
 have hS0:∀ (w':World) (oX:Own) (gX:Gh) (net:List Mes),Lies oX τ w' bt gX { s with serial:=s.serial+1,fts:=aput s.fts (n,k) ⟨s.serial+1,s.clk n,l,.slice va vn vc⟩,net:=net }→g.Like gX→w'.cell? ⟨w.heap.size,0,none⟩=some (.int .i64 (n:Int))→w'.cell? ⟨w.heap.size,1,none⟩=some (.string k) →
     w'.cell? ⟨w.heap.size,0,none⟩=some (.int .i64 (n:Int))∧w'.cell? ⟨w.heap.size,1,none⟩=some (.string k)∧w'.cell? ⟨bt,0,none⟩=some (.slice (some ⟨pb,0,none⟩) s.c.parents.length pc)∧w'.cell? ⟨bt,14,none⟩=some (.int .i64 (s.serial+1))∧w'.cell? ⟨pb,n,none⟩=some (.int .i64 (s.c.parents.getD n 0)):=by
  intro w' oX gX net hl gl a b
  obtain ⟨pb',pc',q1,_,_,q2⟩:=hl.parent (n:=n) (uH HNUM).2.2.2
  rw [gl.pv,hpv] at q1
  cases q1
  exact ⟨a,b,by rw [← hpv,← gl.pv];exact cOf hl.tier.block 0,cOf hl.tier.block 14,q2⟩
 have HSH:=hide hS0
 have i2:(n:Int)<(s.c.parents.length:Int):=by have:=(uH HNUM).2.2.2;omega
 have KS:=hide (send_any own' τ bt g { s with serial:=s.serial+1,fts:=aput s.fts (n,k) ⟨s.serial+1,s.clk n,l,.slice va vn vc⟩ } ⟨1,n,s.c.parents.getD n 0,k,s.serial+1,tg,0,0,none8⟩ w2.drew ((uH HL2).turn (Turn.drew _ _)) (uH HNUM).2.2.1)
 simp only [mesV,mesL,none8] at KS
 clear hrun hgrow hbT hb2 x0 x1 c13 c14 c6 hb0 KM hT2 hS0 KF hw1 hpc
 go_split_ands
 go_region_held3 (fun w'=>w'.cell? ⟨w.heap.size,0,none⟩=some (.int .i64 (n:Int))∧w'.cell? ⟨w.heap.size,1,none⟩=some (.string k)∧w'.cell? ⟨bt,0,none⟩=some (.slice (some ⟨pb,0,none⟩) s.c.parents.length pc)∧w'.cell? ⟨bt,14,none⟩=some (.int .i64 (s.serial+1))∧w'.cell? ⟨pb,n,none⟩=some (.int .i64 (s.c.parents.getD n 0)))
   ((first|exact uH HSH _ own' g s.net ((uH HL2).turn (Turn.drew _ _)) (Gh.Like.refl g) y0 y1|exact uH HSH _ _ _ _ L3 GL3 (S3.cell (w:=w2.drew) y0 hno2) (S3.cell (w:=w2.drew) y1 hno2)))
   (first|(go_at_call 83;refine (uH KS).mono ?_;rintro e w3 ⟨rfl,own3,g3,L3,S3,GL3⟩))
 go_split_ands
 have HE:=hide (And.intro L3 (And.intro (((uH HO2).trans (Step.of_turn (Turn.drew _ _))).trans S3) GL3))
 clear L3 S3 GL3 HSH
 go_wp2
 go_end0
 exact ⟨rfl,own3,g3,(uH HE).1,(uH HE).2.1,(uH HE).2.2⟩
end
section
open Go.RowKit
open Tier (Mes Ans Conf)
theorem fetch_new (own:Own) (τ bt:Nat) (g:Gh) (s:PS) (n:Nat) (k:ByteArray) (tg:Int) (l:List Wt) (va:Option Addr) (vn vc:Nat) (w:World) (h:Lies own τ w bt g s) (hn:n<6) (hk:k.size≤100) (hser:0≤s.serial∧s.serial<1000000000000) (hroom:s.fts.length≤1000000000000) (hlen:s.net.length<1000000000000) (hpar:n<s.c.parents.length)
    (hrow:Row own τ (16+(s.serial+1).toNat) w 146 4 (.slice va vn vc) (l.map wtL)) :
    Calls Tryz.prog 123 #[.pointer (some ⟨bt,0,none⟩),placeV (n,k),.int .i64 tg,.slice va vn vc] w fun r w'=>r= .returned (.tuple #[])∧∃ own2 g2,Lies own2 τ w' bt g2 (s.fetch n k tg l (.slice va vn vc))∧Step τ own own2 w w'∧g.Like g2:=by
 refine fetch_walk own own τ bt g s n k tg l va vn vc w h hn hk hser hroom hlen hpar ?_ (fun _ _=>Or.inl rfl) h.top
 intro w2 hm hb hT
 refine h.fetched own (fun _ _ _ _ _=>rfl) (fun k' hk'=>h.top k' (Nat.le_trans hT.size hk')) (hrow.frame (fun k' hk' ho=>⟨hT.block k' hk' ?_,rfl⟩)) hm hb (fun k' hk' h1 h2=>hT.block k' hk' (fun e=>e.elim h1 h2))
 rintro (rfl|rfl)
 ·rw [h.tierO] at ho;injection ho with ho;injection ho with _ ho;omega
 ·rw [h.ftsO] at ho;injection ho with ho;injection ho with _ ho;omega
theorem fetch_again (own:Own) (τ bt:Nat) (g:Gh) (s:PS) (n:Nat) (k:ByteArray) (tg:Int) (f:Ft) (w:World) (h:Lies own τ w bt g s) (hn:n<6) (hk:k.size≤100) (hser:0≤s.serial∧s.serial<1000000000000) (hroom:s.fts.length≤1000000000000) (hlen:s.net.length<1000000000000) (hpar:n<s.c.parents.length)
    (hf:aget s.fts (n,k)=some f) (hap:s.fts.Pairwise (fun p q=>p.2.serial≠q.2.serial)) (hpos:∀ p∈s.fts,0<p.2.serial∧p.2.serial≤s.serial) :
    Calls Tryz.prog 123 #[.pointer (some ⟨bt,0,none⟩),placeV (n,k),.int .i64 tg,f.v] w fun r w'=>r= .returned (.tuple #[])∧∃ own2 g2,Lies own2 τ w' bt g2 (s.fetch n k tg f.l f.v)∧Step τ own own2 w w'∧g.Like g2:=by
 have hmem:=aget_mem hf
 have hr:=h.waits _ hmem
 dsimp only at hr
 have hfp:=hpos _ hmem
 dsimp only at hfp
 obtain ⟨va,vc,hv⟩:=row_form hr.row
 rw [hv] at hr ⊢
 have hmv:∀ {k' x},own k'=some (τ,x)→x≠16+f.serial.toNat→moveO own (τ,16+f.serial.toNat) (τ,16+(s.serial+1).toNat) k'=own k':=fun {k' x} ho hx=>by
   unfold moveO
   rw [if_neg]
   rw [ho]
   intro e
   cases e
   exact hx rfl
 have htop:∀ k',w.heap.size≤k'→moveO own (τ,16+f.serial.toNat) (τ,16+(s.serial+1).toNat) k'=none:=fun k' hk'=>by
   unfold moveO
   rw [h.top k' hk']
   rfl
 refine fetch_walk own (moveO own (τ,16+f.serial.toNat) (τ,16+(s.serial+1).toNat)) τ bt g s n k tg f.l va _ vc w h hn hk hser hroom hlen hpar ?_ (fun k' _=>?_) htop
 ·intro w2 hm hb hT
  refine h.fetched _ (fun k' _ x hx ho=>hmv ho ?_) (fun k' hk'=>htop k' (Nat.le_trans hT.size hk')) ?_ hm hb (fun k' hk' h1 h2=>hT.block k' hk' (fun e=>e.elim h1 h2))
  ·rcases hx with hx|⟨p,hp1,hp2,hx⟩
   ·omega
   ·have h1:=(hpos p hp1).1
    have h3:p.2.serial≠f.serial:=fun e=>by
      have:=pw_eq (fun p:(Nat × ByteArray) × Ft=>p.2.serial) hap hp1 hmem e
      rw [this] at hp2
      exact hp2 rfl
    omega
  ·have hlt:=hr.row.lt
   obtain ⟨⟨hl,hvv⟩,hmn⟩:=hr
   refine ⟨⟨hl,?_⟩,fun k' hk'=>by unfold moveO;rw [if_pos (hmn k' hk')]⟩
   rcases hvv with hvv|⟨gb,cap,cur,hvv,hb0,hgb,r⟩
   ·exact Or.inl hvv
   ·cases hvv
    refine Or.inr ⟨gb,vc,cur,rfl,hb0,(hT.block gb (hlt gb rfl).2 ?_).trans hgb,r⟩
    have ho:=hmn gb rfl
    rintro (rfl|rfl)
    ·rw [h.tierO] at ho;injection ho with ho;injection ho with _ ho;omega
    ·rw [h.ftsO] at ho;injection ho with ho;injection ho with _ ho;omega
 ·by_cases e:own k'=some (τ,16+f.serial.toNat)
  ·exact Or.inr ⟨⟨_,e⟩,Or.inr ⟨_,by unfold moveO;rw [if_pos e]⟩⟩
  ·exact Or.inl (by unfold moveO;rw [if_neg e])
end
section
open Go.RowKit
open Tier (Mes Ans Conf)
attribute [local go_sem ↓] Go.wp_at_zero Go.wp_at_succ
theorem isCache_any (own:Own) (τ bt:Nat) (g:Gh) (s:PS) (i:Int) (w:World) (h:Lies own τ w bt g s) (hp:s.c.parents.length≤6) :
    Calls Tryz.prog 63 #[.pointer (some ⟨bt,0,none⟩),.int .i64 i] w fun r w'=>r= .returned (.bool (Nums.inB i 1 ((s.c.parents.length:Int) - 1)))∧w'=w:=by
 obtain ⟨a,c,hv⟩:=row_form h.pars.row
 rw [List.length_map] at hv
 have d0:w.cell? ⟨bt,0,none⟩=some (.slice a s.c.parents.length c):=by rw [← hv];exact cOf h.tier.block 0
 clear h hv
 generalize s.c.parents.length=m at *
 have hm:(m:Int)≤6:=by omega
 go_enter Tryz.func63,Tryz.ntmps63
 go_wp2_with fail
 refine (within_any i 1 ((m:Int) - 1) w).mono ?_
 rintro e w' ⟨rfl,rfl⟩
 go_wp2
 go_ret
 exact ⟨rfl,rfl⟩
def childOf (m:Mes):Wt:=⟨m.frm,m.serial,m.ver,0⟩
theorem child_any (m:Mes) (w:World) :
    Calls Tryz.prog 113 #[mesV m] w fun r w'=>r= .returned (wtV (childOf m))∧Turn nO w w':=by
 obtain ⟨kind,frm,tto,key,serial,ver,age,pres,val⟩:=m
 unfold mesV wtV childOf mesL
 dsimp only
 go_enter Tryz.func113,Tryz.ntmps113
 go_wp2
 exact bodyPost_ret (v:= .agg #[.int .i64 frm,.int .i64 serial,.int .i64 ver,.int .i64 0]) (by simp [results,Tryz.results113,go_sem]) rfl ⟨rfl,by (repeat (first|(with_reducible first|assumption|exact Turn.refl _ _|apply Turn.sA|apply Turn.sD|refine tN ?_ (by assumption))|((with_reducible refine Turn.sS ?_ ?_);rotate_left;· first|exact Or.inr rfl|exact Or.inr (Or.inl rfl)|exact Or.inl (by simp <;> omega))|(with_reducible refine tG ?_ (by assumption))|(with_reducible first|apply There.drew|apply There.set|refine hNo ?_ (by assumption))|assumption))⟩
def noRec:Rec:=⟨0,0,none8⟩
theorem zeroRec (w:World):(zeroValue 169).run Tryz.prog w= .ok (recV noRec) w:=by kernel_rfl
theorem stringKeyed:Maps.Keyed Tryz.prog 9:=Maps.string_keyed Tryz.underlying9
theorem string_inj (a b:ByteArray) (h:Value.string a=Value.string b):a=b:=by cases h;rfl
theorem rec_look {w:World} {bm:Nat} {l:List (ByteArray × Rec)} (hm:MapIs Tryz.prog 9 w bm (rawL .string recV l)) {k:ByteArray} (h2:k.size≤maxLen) :
    (Instr.lookup 109 (.map (some bm)) (.string k) false).run Tryz.prog w= .ok (recV ((aget l k).getD noRec)) w:=by
 have:=map_look hm stringKeyed Tryz.underlying109 string_inj (Go.WideMaps.keyOf_string_mk Tryz.underlying9 h2) (zeroRec w) false
 cases hg:aget l k <;> rw [hg] at this <;> simpa using this
theorem rec_look2 {w:World} {bm:Nat} {l:List (ByteArray × Rec)} (hm:MapIs Tryz.prog 9 w bm (rawL .string recV l)) {k:ByteArray} (h2:k.size≤maxLen) :
    (Instr.lookup 109 (.map (some bm)) (.string k) true).run Tryz.prog w= .ok (.tuple #[recV ((aget l k).getD noRec),.bool (aget l k).isSome]) w:=by
 have:=map_look hm stringKeyed Tryz.underlying109 string_inj (Go.WideMaps.keyOf_string_mk Tryz.underlying9 h2) (zeroRec w) true
 cases hg:aget l k <;> rw [hg] at this <;> simpa using this
def PS.record (s:PS) (k:ByteArray):Rec:=(aget s.recs k).getD noRec
theorem originAt_any (own:Own) (τ bt:Nat) (g:Gh) (s:PS) (k:ByteArray) (w:World) (h:Lies own τ w bt g s) (h2:k.size≤maxLen) :
    Calls Tryz.prog 129 #[.pointer (some ⟨g.bo,0,none⟩),.string k] w fun r w'=>r= .returned (recV (s.record k))∧Turn nO w w':=by
 have d0:w.cell? ⟨g.bo,0,none⟩=some (.map (some g.bm)):=cOf h.orig 0
 have hbo:=heap_lt h.orig
 have hl:∀ o,(Instr.lookup 109 (.map (some g.bm)) (.string k) false).run Tryz.prog (w.alloc o)= .ok (recV (s.record k)) (w.alloc o):=fun o=>rec_look (h.recs.heap ((MapKept.heap_alloc w o).2 _ h.recs.lt)) h2
 generalize s.record k=r at *
 obtain ⟨ver,pres,val⟩:=r
 unfold recV at *
 dsimp only at *
 clear h
 go_enter Tryz.func129,Tryz.ntmps129
 go_wp2
 exact bodyPost_ret (v:= .agg #[.int .i64 ver,.int .i64 pres,.string val]) (by simp [results,Tryz.results129,go_sem]) rfl ⟨rfl,by (repeat (first|(with_reducible first|assumption|exact Turn.refl _ _|apply Turn.sA|apply Turn.sD|refine tN ?_ (by assumption))|((with_reducible refine Turn.sS ?_ ?_);rotate_left;· first|exact Or.inr rfl|exact Or.inr (Or.inl rfl)|exact Or.inl (by simp <;> omega))|(with_reducible refine tG ?_ (by assumption))|(with_reducible first|apply There.drew|apply There.set|refine hNo ?_ (by assumption))|assumption))⟩
end
section
open Go.RowKit
open Go.WideElems (Fit rd rg rd_mk rg_of)
open Go.Maps (Keyed)
attribute [local go_sem ↓] Go.wp_at_zero Go.wp_at_succ
def ftR:Value→Option (DataW Value × List MemPlace)
  | .agg ⟨[.int .i64 a,.int .i64 b,.slice c d e]⟩=>some (.held (.agg #[.int .i64 a,.int .i64 b,.slice c d e]),[])
  | _=>none
def mkP (x:Int × ByteArray):Value:= .agg #[.int .i64 x.1,.string x.2]
def mkF (c:(Int × Int) × (Option Addr × Nat × Nat)):Value:= .agg #[.int .i64 c.1.1,.int .i64 c.1.2,.slice c.2.1 c.2.2.1 c.2.2.2]
theorem ftR_inv (v:Value) (y:DataW Value × List MemPlace) (h:ftR v=some y):∃ c,v=mkF c:=by
  unfold ftR at h
  split at h
  ·exact ⟨((_,_),(_,_,_)),rfl⟩
  ·cases h
theorem lit_int {P:Program} {a:TypeId} {m:Nat} {c:Value} {l:List Lit} (ha:P.underlying a=some (.int .i64)) (h:P.keyLits (m+1) a [c]=some l):∃ i,c= .int .i64 i:=by
  unfold Program.keyLits at h
  rw [ha] at h
  cases c <;> simp at h
  obtain ⟨⟨rfl,_⟩,_⟩:=h
  exact ⟨_,rfl⟩
theorem lit_str {P:Program} {a:TypeId} {m:Nat} {c:Value} {l:List Lit} (ha:P.underlying a=some .string) (h:P.keyLits (m+1) a [c]=some l):∃ s,c= .string s:=by
  unfold Program.keyLits at h
  rw [ha] at h
  cases c <;> simp at h
  exact ⟨_,rfl⟩
theorem keyOf_two_inv {P:Program} {t a b:TypeId} {f0 f1:Field} (hu:P.underlying t=some (.struct #[f0,f1])) (ha:P.underlying a=some (.int .i64)) (hb:P.underlying b=some .string) (h0:f0.type=a) (h1:f1.type=b) (o0:f0.offset=0) (o1:f1.offset=1)
    (hc:P.cellsOf t=2) (ca:P.cellsOf a=1) (cb:P.cellsOf b=1) (hp:P.types.size≠0) (key:Value) (kl:Lit) (h:keyOf P t key=some kl):∃ x:Int × ByteArray,key=mkP x:=by
 obtain ⟨m,hm⟩:∃ m,P.types.size+1=m+2:=⟨P.types.size - 1,by omega⟩
 unfold keyOf at h
 rw [hu] at h
 dsimp only at h
 split at h
 ·rename_i hcond
  simp only [Bool.and_eq_true] at hcond
  have hf:=hcond.2
  have hag:∃ cs:Array Value,key= .agg cs∧cs.size=2:=by
    cases key <;> simp [Value.formed,hu,hc] at hf
    exact ⟨_,rfl,hf⟩
  obtain ⟨⟨l⟩,rfl,hs⟩:=hag
  match l,hs with
  | [c0,c1],_ =>
    obtain ⟨ls,hls,_⟩:=Option.map_eq_some_iff.1 h
    rw [hm] at hls
    simp only [Value.cells] at hls
    unfold Program.keyLits at hls
    rw [hu] at hls
    simp only [hc,List.length_cons,List.length_nil,h0,h1,o0,o1,ca,cb,List.mapM_cons,List.mapM_nil] at hls
    split at hls
    ·obtain ⟨ls',hls',_⟩:=Option.map_eq_some_iff.1 hls
     simp only [List.drop_zero,List.take_succ_cons,List.take_zero,List.drop_succ_cons,Option.bind_eq_bind,Option.bind_eq_some_iff] at hls'
     obtain ⟨l0,e0,l1,⟨l2,e2,_⟩,_⟩:=hls'
     obtain ⟨i,rfl⟩:=lit_int ha e0
     obtain ⟨s,rfl⟩:=lit_str hb e2
     exact ⟨(i,s),rfl⟩
    ·cases hls
 ·cases h
theorem place_inv (key:Value) (kl:Lit) (h:keyOf Tryz.prog 124 key=some kl):∃ x:Int × ByteArray,key=mkP x :=
  keyOf_two_inv Tryz.underlying124 Tryz.underlying3 Tryz.underlying9 rfl rfl rfl rfl (by kernel_rfl) (by kernel_rfl) (by kernel_rfl) (of_decide_eq_true (by kernel_rfl)) key kl h
def klitP (P:Program) (p:Nat × ByteArray):Lit:=(keyOf P 124 (placeV p)).getD .nil
def totP (P:Program) (n:Nat) (left:Lit→Bool) (l:List ((Nat × ByteArray) × Ft)):Nat:=(l.map fun p=>if left (klitP P p.1) then 0 else if p.1.1=n then p.2.l.length else 0).sum
def waiting (n:Nat) (l:List ((Nat × ByteArray) × Ft)):Nat:=(l.map fun p=>if p.1.1=n then p.2.l.length else 0).sum
theorem sum_step {α:Type} (f g:α→Nat) (c:Nat) (p0:α):∀ {l:List α},(∀ p∈l,p≠p0→g p=f p)→g p0=f p0+c→p0∈l→l.Pairwise (·≠·)→(l.map g).sum=(l.map f).sum+c
  | [],_,_,hm,_=>nomatch hm
  | q :: r,hne,h0,hm,hp=>by
    obtain ⟨h1,h2⟩:=List.pairwise_cons.1 hp
    by_cases e:q=p0
    ·subst e
     have:r.map g=r.map f:=List.map_congr_left fun p hp'=>hne p (by simp [hp']) (Ne.symm (h1 p hp'))
     simp only [List.map_cons,List.sum_cons,this,h0]
     omega
    ·have hm':p0∈r:=(List.mem_cons.1 hm).resolve_left (fun e'=>e e'.symm)
     have:=sum_step f g c p0 (l:=r) (fun p hp'=>hne p (by simp [hp'])) h0 hm' h2
     simp only [List.map_cons,List.sum_cons,this,hne q (by simp) e]
     omega
theorem sum_le {α:Type} (f:α→Nat) (m:Nat):∀ {l:List α},(∀ p∈l,f p≤m)→(l.map f).sum≤l.length*m
  | [],_=>by simp
  | q :: r,h=>by
    have h1:=h q (by simp)
    have h2:=sum_le f m (l:=r) (fun p hp=>h p (by simp [hp]))
    simp only [List.map_cons,List.sum_cons,List.length_cons,Nat.succ_mul]
    omega
theorem totP_le {P:Program} {n:Nat} {left:Lit→Bool} {l:List ((Nat × ByteArray) × Ft)} (h:∀ p∈l,p.2.l.length≤100) (hl:l.length≤1000000000000):totP P n left l≤100000000000000:=by
  have:=sum_le (fun p:(Nat × ByteArray) × Ft=>if left (klitP P p.1) then 0 else if p.1.1=n then p.2.l.length else 0) 100 (l:=l) (fun p hp=>by
    split
    ·omega
    ·split
     ·exact h p hp
     ·omega)
  unfold totP
  omega
theorem klit_key {p:Nat × ByteArray} (h1:p.1<1000) (h2:p.2.size≤100):keyOf Tryz.prog 124 (placeV p)=some (klitP Tryz.prog p):=by
  obtain ⟨kl,h⟩:=placeKey h1 h2
  unfold klitP
  rw [h]
  rfl
theorem MapIs.ranging {w:World} {b:Nat} {l:List ((Nat × ByteArray) × Ft)} (h:MapIs Tryz.prog 124 w b (rawL placeV ftV l)) (hs:∀ p∈l,∃ a c,p.2.v= .slice a p.2.l.length c) (hk:∀ p∈l,p.1.1<1000∧p.1.2.size≤100) :
    ∃ D n,w.ownsMap Tryz.prog 124 ftR b n D∧(∀ p∈l,Maps.has D (klitP Tryz.prog p.1)=true) ∧
      ∀ x kl c,keyOf Tryz.prog 124 (mkP x)=some kl→(∀ zd,D.atKey kl zd= .held (mkF c))→∃ p∈l,placeV p.1=mkP x∧ftV p.2=mkF c∧kl=klitP Tryz.prog p.1:=by
 obtain ⟨es,clock,hb,F,hl⟩:=h.is
 have hval:∀ x∈es.toList,∃ p∈l,x.key=placeV p.1∧x.val=ftV p.2:=by
   intro x hx
   have:pairV x∈rawL placeV ftV l:=by rw [← hl];exact List.mem_map.2 ⟨x,hx,rfl⟩
   obtain ⟨p,hp,e⟩:=List.mem_map.1 this
   exact ⟨p,hp,(congrArg Prod.fst e).symm,(congrArg Prod.snd e).symm⟩
 have hread:∀ x∈es.toList,ftR x.val=some (.held x.val,[]):=by
   intro x hx
   obtain ⟨p,hp,_,e⟩:=hval x hx
   obtain ⟨a,c,hv⟩:=hs p hp
   rw [e,ftV,hv]
   rfl
 have hkey:∀ x∈es.toList,∃ p∈l,x.key=placeV p.1∧x.val=ftV p.2∧keyOf Tryz.prog 124 x.key=some (klitP Tryz.prog p.1):=by
   intro x hx
   obtain ⟨p,hp,e1,e2⟩:=hval x hx
   exact ⟨p,hp,e1,e2,by rw [e1];exact klit_key (hk p hp).1 (hk p hp).2⟩
 have F':Fit Tryz.prog 124 ftR es clock:=⟨F.size,F.stamped,fun x hx=>by
   obtain ⟨p,_,_,_,hk'⟩:=hkey x hx
   exact ⟨_,rd_mk hk' (hread x hx)⟩⟩
 refine ⟨_,es.size,⟨es,clock,hb,F',Nat.le_refl _,rfl⟩,?_,?_⟩
 ·intro p hp
  have:(placeV p.1,ftV p.2)∈es.toList.map pairV:=by rw [hl];exact List.mem_map.2 ⟨p,hp,rfl⟩
  obtain ⟨x,hx,e⟩:=List.mem_map.1 this
  have hk1:keyOf Tryz.prog 124 x.key=some (klitP Tryz.prog p.1):=by
    rw [show x.key=placeV p.1 from congrArg Prod.fst e]
    exact klit_key (hk p hp).1 (hk p hp).2
  have hrg:(rg Tryz.prog 124 ftR x).1=klitP Tryz.prog p.1:=by rw [rg_of (rd_mk hk1 (hread x hx))]
  exact List.any_eq_true.2 ⟨rg Tryz.prog 124 ftR x,mem_sorted.2 (List.mem_map.2 ⟨x,hx,rfl⟩),by rw [hrg];exact WideAt.sameKey_self (placeKeyed.key hk1)⟩
 ·intro x kl c hkx hat
  rcases Maps.fit_look false placeKeyed Tryz.underlying74 (zeroFt w) hb F' hkx with ⟨_,_,h3⟩|⟨e0,y,hm0,hk0,_,hy,h3,_⟩
  ·have:=(hat .nil).symm.trans (h3 .nil)
   cases this
  ·obtain ⟨p,hp,e1,e2,hk'⟩:=hkey e0 hm0
   rw [hread e0 hm0] at hy
   cases hy
   have:=(hat .nil).symm.trans (h3 .nil)
   injection this with this
   refine ⟨p,hp,by rw [← e1,hk0],by rw [← e2];exact this.symm,?_⟩
   rw [hk0,hkx] at hk'
   exact Option.some.inj hk'
theorem totP_start {P:Program} {n:Nat} {left:Lit→Bool} {l:List ((Nat × ByteArray) × Ft)} (h:∀ p∈l,left (klitP P p.1)=true):totP P n left l=0:=by
  induction l with
  | nil=>rfl
  | cons p r ih =>
    have h1:=h p (by simp)
    have h2:=ih (fun q hq=>h q (by simp [hq]))
    unfold totP at *
    simp [h1,h2]
theorem totP_end {P:Program} {n:Nat} {left:Lit→Bool} {l:List ((Nat × ByteArray) × Ft)} (h:∀ kl,left kl=false):totP P n left l=waiting n l:=by
  unfold totP waiting
  congr 1
  exact List.map_congr_left fun p _=>by simp [h]
theorem totP_step {n:Nat} {left:Lit→Bool} {l:List ((Nat × ByteArray) × Ft)} (hn:l.Pairwise (fun p q=>p.1≠q.1)) (hk:∀ p∈l,p.1.1<1000∧p.1.2.size≤100) {p0:(Nat × ByteArray) × Ft} (hp:p0∈l) (hl:left (klitP Tryz.prog p0.1)=true) :
    totP Tryz.prog n (fun z=>left z && !z.sameKey (klitP Tryz.prog p0.1)) l=totP Tryz.prog n left l+(if p0.1.1=n then p0.2.l.length else 0):=by
 unfold totP
 refine sum_step _ _ _ p0 ?_ ?_ hp (hn.imp fun h e=>h (by rw [e]))
 ·intro p hp' hne
  have:(klitP Tryz.prog p.1).sameKey (klitP Tryz.prog p0.1)=false:=by
    cases hs:(klitP Tryz.prog p.1).sameKey (klitP Tryz.prog p0.1)
    ·rfl
    ·have e:=WideAt.sameKey_eq hs
     have k1:=klit_key (hk p hp').1 (hk p hp').2
     have k2:=klit_key (hk p0 hp).1 (hk p0 hp).2
     rw [e] at k1
     exact absurd (pw_eq (fun p:(Nat × ByteArray) × Ft=>p.1) hn hp' hp (placeV_inj _ _ (placeKeyed.inj k1 k2))) hne
  simp [this]
 ·have:(klitP Tryz.prog p0.1).sameKey (klitP Tryz.prog p0.1)=true:=WideAt.sameKey_self (placeKeyed.key (klit_key (hk p0 hp).1 (hk p0 hp).2))
  simp [this,hl]
end
end Go.Proofs.YtpdkojgepagbnaaGreatDoor
