/-
  How many wait at a cache: the walk.
  One more waits for a fetch.
  One begins to wait: a new fetch.
-/
import Derived.Test.YtpdkojgepagbnaaGreatDoorJ08
namespace Go.Proofs.YtpdkojgepagbnaaGreatDoor
set_option maxRecDepth 100000
set_option maxHeartbeats 8000000
section
open Go.RowKit
attribute [local go_sem ↓] Go.wp_at_zero Go.wp_at_succ
theorem Waiting_any (b n:Nat) (l:List ((Nat × ByteArray) × Ft)) (w:World) (h:MapIs Tryz.prog 124 w b (rawL placeV ftV l)) (hs:∀ p∈l,∃ a c,p.2.v= .slice a p.2.l.length c) (hk:∀ p∈l,p.1.1<1000∧p.1.2.size≤100) (hlen:∀ p∈l,p.2.l.length≤100) (hl:l.length≤1000000000000) :
    Calls Tryz.prog 122 #[.map (some b),.int .i64 (n:Int)] w fun r w'=>r= .returned (.int .i64 (waiting n l:Int))∧Turn nO w w':=by
 have hap:=rawL_apart h.apart
 obtain ⟨D,m,hown,hhas,hmem⟩:=h.ranging hs hk
 have hblt:b<w.heap.size:=h.lt
 have KM:=hide hmem
 have KO:=hide hown
 have KB:=hide (fun left=>totP_le (P:=Tryz.prog) (n:=n) (left:=left) hlen hl)
 have K0:=hide (totP_start (P:=Tryz.prog) (n:=n) (left:=Maps.has D) (l:=l) hhas)
 have KS:=hide (fun left p0 hp hl=>totP_step (n:=n) (left:=left) (l:=l) hap hk (p0:=p0) hp hl)
 have KE:=hide (fun left h=>totP_end (P:=Tryz.prog) (n:=n) (left:=left) (l:=l) h)
 have KV:=hide hs
 clear h hs hk hlen hl hap hown hhas hmem
 go_enter Tryz.func122,Tryz.ntmps122
 go_wp2_with (first
   | (at_range;refine wpList_range_own _ rfl _ 74 rfl 124 154 placeKeyed Tryz.underlying74 ftR b m D rfl (uH KO) ?_;intro w0 hrg0 hg0 hs0;go_frame)
   | go_in)
 go_loopw [5] (fun acc wr=>∃ (left:Lit→Bool) (cnt:Nat),acc= .int .i64 (totP Tryz.prog n left l:Int)∧Hid (wr.ranges Tryz.prog 124 ftR b w.heap.size m D left cnt)∧Hid (Turn nO w wr)) (fun _ wr=>wr.rangeLeft b w.heap.size)
 case atStart=>exact ⟨Maps.has D,Maps.size D,by rw [uH K0];rfl,hrg0,(Turn.grown hg0).mono (fun _ _ h=>by cases h)⟩
 case round =>
   obtain ⟨left,cnt,rfl,hrg,hT⟩:=hrel
   have hb1:=uH KB left
   go_wp2_with (first
     | (at_next;refine wpList_next_ranges _ rfl _ rfl 124 placeKeyed ftR mkP mkF place_inv ftR_inv b w.heap.size m D left cnt rfl (uH hrg) ?_ ?_)
     | go_in)
   ·intro _ hl0
    go_wp2
    go_ret
    exact ⟨by rw [uH KE left hl0];rfl,hT⟩
   ·intro xi xs fa fb sa sn sc kl y1 y2 w1 cnt1 hkx hlk hRv hat hrg1 hlt hg1 hs1 hen
    obtain ⟨p0,hp,ep,ef,hkl⟩:=uH KM (xi,xs) kl ((fa,fb),(sa,sn,sc)) hkx (fun zd=>by rw [hat zd];cases hRv;rfl)
    obtain ⟨va,vc,hv⟩:=uH KV p0 hp
    have hstep:=uH KS left p0 hp (by rw [← hkl];exact hlk)
    rw [← hkl] at hstep
    obtain ⟨⟨pn,pk⟩,pf⟩:=p0
    simp only [placeV,mkP,Value.agg.injEq,Array.mk.injEq,List.cons.injEq,Value.int.injEq,Value.string.injEq,true_and,and_true] at ep
    obtain ⟨rfl,rfl⟩:=ep
    dsimp only at hv hstep
    rw [ftV,hv,mkF] at ef
    simp only [Value.agg.injEq,Array.mk.injEq,List.cons.injEq,Value.int.injEq,Value.slice.injEq,true_and,and_true] at ef
    obtain ⟨rfl,rfl,rfl,rfl,rfl⟩:=ef
    have hb2:=uH KB (fun z=>left z && !z.sameKey kl)
    have hT1:Hid (Turn nO w w1):=by
      refine (uH hT).sT (Turn.grown hg1) (fun k' hk' e=>?_)
      cases e
      omega
    have HR1:=hide hrg1
    have HLT:=hide hlt
    have HRL:=hide (uH hrg).left_eq
    clear hrg1 hlt hat hRv hkx hlk hg1 hv hp hT hkl
    simp only [mkP,mkF] at hen ⊢
    by_cases hx:(pn:Int)=(n:Int)
    ·have hx':pn=n:=by omega
     rw [if_pos hx'] at hstep
     generalize pf.l.length=ln at *
     have hw:IntKind.i64.wrap ((totP Tryz.prog n left l:Int)+(ln:Int))=((totP Tryz.prog n left l:Int)+(ln:Int)):=by rw [IntKind.wrap_i64];omega
     have HST:=hide hstep
     clear hstep hb1 hb2
     go_wp2
     refine ⟨⟨fun z=>left z && !z.sameKey kl,cnt1,by rw [uH HST];simp,((uH HR1).alloc _).alloc _,((uH hT1).sA).sA⟩,?_⟩
     rw [(((uH HR1).alloc _).alloc _).left_eq,uH HRL]
     exact uH HLT
    ·have hx':pn≠n:=by omega
     rw [if_neg hx'] at hstep
     have HST:=hide hstep
     clear hstep hb1 hb2
     go_wp2
     refine ⟨⟨fun z=>left z && !z.sameKey kl,cnt1,by rw [uH HST];simp,((uH HR1).alloc _).alloc _,((uH hT1).sA).sA⟩,?_⟩
     rw [(((uH HR1).alloc _).alloc _).left_eq,uH HRL]
     exact uH HLT
end
section
open Go.RowKit
open Tier (Mes Ans Conf)
attribute [local go_sem ↓] Go.wp_at_zero Go.wp_at_succ
theorem Lies.joined {own:Own} {τ:Nat} {w w2:World} {bt:Nat} {g:Gh} {s:PS} (h:Lies own τ w bt g s) {k:Nat × ByteArray} {f:Ft} {x:Wt} {gb cap:Nat} (hf:aget s.fts k=some f) (hap:s.fts.Pairwise (fun p q=>p.2.serial≠q.2.serial)) (hpos:∀ p∈s.fts,0<p.2.serial)
    (hO:w2.ownsRow 0 146 4 (.slice (some ⟨gb,0,none⟩) ((f.l.map wtL).length+1) cap) ((f.l.map wtL).length+1) ((f.l.map wtL).flatten ++ wtL x)) (hat:f.v.ownBlock=some gb∨w.heap.size≤gb) (hlt:gb<w2.heap.size)
    (hm:MapIs Tryz.prog 124 w2 g.bq (rawL placeV ftV (aput s.fts k ⟨f.serial,f.sent,f.l ++ [x],.slice (some ⟨gb,0,none⟩) ((f.l.map wtL).length+1) cap⟩))) (hT:Turn (fun k'=>k'=g.bq∨some k'=f.v.ownBlock) w w2) :
    Lies (putO own gb (τ,16+f.serial.toNat)) τ w2 bt g { s with fts:=aput s.fts k ⟨f.serial,f.sent,f.l ++ [x],.slice (some ⟨gb,0,none⟩) ((f.l.map wtL).length+1) cap⟩ }∧Step τ own (putO own gb (τ,16+f.serial.toNat)) w w2:=by
 have hn:s.fts.Pairwise (fun p q=>p.1≠q.1):=rawL_apart h.fts.apart
 have hmem:=aget_mem hf
 have hr:=h.waits _ hmem
 dsimp only at hr
 have hgb:own gb=some (τ,16+f.serial.toNat)∨w.heap.size≤gb:=hat.imp (fun h1=>hr.mine gb h1) id
 have hsame:∀ k',k'<w.heap.size→putO own gb (τ,16+f.serial.toNat) k'=own k':=fun k' hk=>putO_same hgb hk
 have F:Fr (fun y=>y=13∨y=16+f.serial.toNat) own (putO own gb (τ,16+f.serial.toNat)) τ w w2:=by
   refine ⟨fun k' hk y hy ho=>⟨hT.block k' hk ?_,hsame k' hk⟩⟩
   rintro (rfl|e)
   ·rw [h.ftsO] at ho;cases ho;exact hy (Or.inl rfl)
   ·rw [hr.mine k' e.symm] at ho;cases ho;exact hy (Or.inr rfl)
 refine ⟨⟨?_,⟨F.block h.tierO (by omega) h.tier.block⟩,F.own h.tierO (by omega) h.tier.lt,F.row h.pars (by omega),F.block h.origO (by omega) h.orig,F.own h.origO (by omega) (heap_lt h.orig),F.map h.recsO (by omega) h.recs,F.own h.recsO (by omega) h.recs.lt,F.block h.entsO (by omega) h.ents,F.own h.entsO (by omega) (heap_lt h.ents),F.map h.foundO (by omega) h.found,F.own h.foundO (by omega) h.found.lt,
   fun i hi=>F.row (h.used i hi) (by omega),hm,?_,fun p hp=>?_,F.row h.net (by omega),F.row h.ans (by omega)⟩,⟨hT.mono (fun k' _ e=>e.elim (fun e=>⟨13,by rw [e];exact h.ftsO⟩) (fun e=>⟨_,hr.mine k' e.symm⟩)),fun k' hk=>Or.inl (hsame k' hk)⟩⟩
 ·intro k' hk
  unfold putO
  rw [if_neg (by omega)]
  exact h.top k' (Nat.le_trans hT.size hk)
 ·rw [hsame _ h.fts.lt];exact h.ftsO
 ·rcases mem_aput hn hp with ⟨hp1,hp2⟩|rfl
  ·refine F.row (h.waits p hp1) ?_
   have h1:=hpos p hp1
   have h2:=hpos _ hmem
   have h3:p.2.serial≠f.serial:=fun e=>by
     have:=pw_eq (fun p:(Nat × ByteArray) × Ft=>p.2.serial) hap hp1 hmem e
     rw [this] at hp2
     exact hp2 rfl
   dsimp only at h2
   omega
  ·have:=row_grown (own:=own) (τ:=τ) (x:=16+f.serial.toNat) (w2:=w2) hO rfl
   simpa using this
theorem ownsRow_block {w1 w2:World} {base e size n gb cap:Nat} {xs:List Value} (h:w1.ownsRow base e size (.slice (some ⟨gb,0,none⟩) n cap) n xs) (hb:w2.heap[gb]?=w1.heap[gb]?):w2.ownsRow base e size (.slice (some ⟨gb,0,none⟩) n cap) n xs:=by
  obtain ⟨hl,⟨hv,_⟩|⟨g,c,cur,hv,h1,h2,r⟩⟩:=h
  ·cases hv
  ·cases hv
   exact ⟨hl,Or.inr ⟨gb,cap,cur,rfl,h1,hb.trans h2,r⟩⟩
def PS.wait (s:PS) (n:Nat) (k:ByteArray) (x:Wt) (v:Value):PS :=
  if s.c.waiters≤(waiting n s.fts:Int) then s.refuse n k x
  else match aget s.fts (n,k) with
    | none=>s.fetch n k (s.tag n k) [x] v
    | some f=>{ s with fts:=aput s.fts (n,k) ⟨f.serial,f.sent,f.l ++ [x],v⟩ }
theorem infoWt:(Tryz.prog.info? 146).map (fun i=>(i.zero,i.size,i.bytes))=some (some (.agg #[.int .i64 0,.int .i64 0,.int .i64 0,.int .i64 0]),4,32):=by kernel_rfl
theorem Waiting_lies {own:Own} {τ bt:Nat} {g:Gh} {s:PS} (n:Nat) (w:World) (h:Lies own τ w bt g s) (hf:s.Fine) :
    Calls Tryz.prog 122 #[.map (some g.bq),.int .i64 (n:Int)] w fun r w'=>r= .returned (.int .i64 (waiting n s.fts:Int))∧Turn nO w w':=by
 refine Waiting_any g.bq n s.fts w h.fts (fun p hp=>?_) (fun p hp=>?_) (fun p hp=>(hf.fts p hp).2.2.2.2.2.2) hf.few.2
 ·obtain ⟨a,c,e⟩:=row_form (h.waits p hp).row
  exact ⟨a,c,by rw [e];simp⟩
 ·have:=hf.fts p hp
  omega
theorem wait_full (own:Own) (τ bt:Nat) (g:Gh) (s:PS) (n:Nat) (k:ByteArray) (x:Wt) (w:World) (h:Lies own τ w bt g s) (hf:s.Fine) (hl1:s.net.length<1000000000000) (hl2:s.answers.length<1000000000000) (hful:s.c.waiters≤(waiting n s.fts:Int)) :
    Calls Tryz.prog 103 #[.pointer (some ⟨bt,0,none⟩),placeV (n,k),wtV x] w fun r w'=>r= .returned (.tuple #[])∧∃ own' g',Lies own' τ w' bt g' (s.refuse n k x)∧Step τ own own' w w'∧g.Like g':=by
 have HH:=hide h
 have KW:=hide (fun w (h:Hid (Lies own τ w bt g s))=>Waiting_lies n w h hf)
 have KR:=hide (fun w (h:Lies own τ w bt g s)=>refuse_any own τ bt g s n k x w h hl1 hl2)
 have d13:w.cell? ⟨bt,13,none⟩=some (.map (some g.bq)):=cOf h.tier.block 13
 have d4:w.cell? ⟨bt,4,none⟩=some (.int .i64 s.c.waiters):=cOf h.tier.block 4
 clear h hf hl1 hl2
 generalize waiting n s.fts=wn at *
 generalize hcw:s.c.waiters=cw at *
 obtain ⟨child,serial,tag,cid⟩:=x
 unfold placeV wtV at *
 dsimp only at *
 go_enter Tryz.func103,Tryz.ntmps103
 go_wp2
 generalize hW:World.alloc _ _=W0
 have T0:Turn nO w W0:=by rw [← hW];exact (Turn.alloc _ _ _).sA
 have hsz:W0.heap.size=w.heap.size+1+1:=by rw [← hW];simp
 have x0:∃ ty,W0.heap[w.heap.size]?=some (.cells #[.int .i64 (n:Int),.string k] ty (0,0)):=by rw [← hW];exact ⟨_,new2_0 _ _ _⟩
 obtain ⟨x0_0,x0_1⟩:=eC2 x0
 have x1:∃ ty,W0.heap[w.heap.size+1]?=some (.cells #[.int .i64 child,.int .i64 serial,.int .i64 tag,.int .i64 cid] ty (0,0)):=by rw [← hW];exact ⟨_,new2_1 _ _ _⟩
 obtain ⟨x1_0,x1_1,x1_2,x1_3⟩:=eC4 x1
 have c13:=T0.cell d13 id
 have c4:=T0.cell d4 id
 have HL:=hide ((uH HH).turn T0)
 clear hW d13 d4
 have HS:=fun w' (T:Turn nO W0 w')=>And.intro T (And.intro (T.cell c13 id) (And.intro (T.cell c4 id) (And.intro (T.cell x0_0 id) (And.intro (T.cell x0_1 id) (And.intro (T.cell x1_0 id) (And.intro (T.cell x1_1 id) (And.intro (T.cell x1_2 id) (And.intro (T.cell x1_3 id) ((show Hid (Lies own τ w' bt g s) from ((uH HL).turn T)))))))))))
 go_region_held3 (fun w'=>Turn nO W0 w'∧w'.cell? ⟨bt,13,none⟩=some (.map (some g.bq))∧w'.cell? ⟨bt,4,none⟩=some (.int .i64 cw)∧w'.cell? ⟨w.heap.size,0,none⟩=some (.int .i64 (n:Int))∧w'.cell? ⟨w.heap.size,1,none⟩=some (.string k)∧w'.cell? ⟨w.heap.size+1,0,none⟩=some (.int .i64 child)∧w'.cell? ⟨w.heap.size+1,1,none⟩=some (.int .i64 serial)∧w'.cell? ⟨w.heap.size+1,2,none⟩=some (.int .i64 tag)∧w'.cell? ⟨w.heap.size+1,3,none⟩=some (.int .i64 cid)∧(Hid (Lies own τ w' bt g s))) ((go_split_ands;apply HS;all_goals (repeat (first|(with_reducible first|assumption|exact Turn.refl _ _|apply Turn.sA|apply Turn.sD|refine tN ?_ (by assumption))|((with_reducible refine Turn.sS ?_ ?_);rotate_left;· first|exact Or.inr rfl|exact Or.inr (Or.inl rfl)|exact Or.inl (by simp <;> omega))|(with_reducible refine tG ?_ (by assumption))|(with_reducible first|apply There.drew|apply There.set|refine hNo ?_ (by assumption))|assumption)))) (first|(go_at_call 122;go_split_ands;refine (uH KW _ (by assumption)).mono ?_;rintro e w' ⟨rfl,TC⟩))
 go_split_ands
 clear HS
 go_wp2_with fail
 have TW:Turn nO W0 w':=by assumption
 refine (uH KR w' ((uH HL).turn TW)).mono ?_
 rintro e w1 ⟨rfl,own',g',L,S,GL⟩
 have HE:=hide (And.intro L (And.intro ((Step.of_turn (T0.sT TW (fun _ _ h=>h))).trans S) GL))
 clear L S GL
 go_wp2
 exact bodyPost_ret (v:= .tuple #[]) (by simp [results,Tryz.results103,go_sem]) rfl ⟨rfl,own',g',(uH HE).1,(uH HE).2.1,(uH HE).2.2⟩
theorem wait_join (own:Own) (τ bt:Nat) (g:Gh) (s:PS) (n:Nat) (k:ByteArray) (x:Wt) (f:Ft) (w:World) (h:Lies own τ w bt g s) (hf:s.Fine) (h1:n<1000) (h2:k.size≤100) (hful:¬ s.c.waiters≤(waiting n s.fts:Int)) (hg:aget s.fts (n,k)=some f) :
    Calls Tryz.prog 103 #[.pointer (some ⟨bt,0,none⟩),placeV (n,k),wtV x] w fun r w'=>r= .returned (.tuple #[])∧∃ own' v,Lies own' τ w' bt g { s with fts:=aput s.fts (n,k) ⟨f.serial,f.sent,f.l ++ [x],v⟩ }∧Step τ own own' w w':=by
 obtain ⟨i0,hi,hz0,hz1,hz2⟩:=info_parts infoWt
 have HH:=hide h
 have HF:=hide (And.intro hf hg)
 have KW:=hide (fun w (h:Hid (Lies own τ w bt g s))=>Waiting_lies n w h hf)
 have d13:w.cell? ⟨bt,13,none⟩=some (.map (some g.bq)):=cOf h.tier.block 13
 have d4:w.cell? ⟨bt,4,none⟩=some (.int .i64 s.c.waiters):=cOf h.tier.block 4
 have hbt:bt<w.heap.size:=h.tier.lt
 have hbq:g.bq<w.heap.size:=h.fts.lt
 have hne:g.bq≠bt:=fun e=>by have:=h.ftsO;rw [e,h.tierO] at this;cases this
 have hrow:=h.waits _ (aget_mem hg)
 dsimp only at hrow
 obtain ⟨fa,fc,hfv⟩:=row_form hrow.row
 have hNb:Hid (∀ k',some k'=f.v.ownBlock→k'<w.heap.size∧k'≠bt∧k'≠g.bq):=fun k' hk=>⟨hrow.lt hk.symm,fun e=>by have:=hrow.mine k' hk.symm;rw [e,h.tierO] at this;injection this with this;injection this with _ this;omega,fun e=>by have:=hrow.mine k' hk.symm;rw [e,h.ftsO] at this;injection this with this;injection this with _ this;omega⟩
 have hlen9:(f.l.map wtL).length≤100:=by have:=(hf.fts _ (aget_mem hg)).2.2.2.2.2.2;simpa using this
 have HK:Hid (∀ w':World,w'.heap[g.bq]?=w.heap[g.bq]?→(Instr.lookup 74 (.map (some g.bq)) (.agg #[.int .i64 (n:Int),.string k]) true).run Tryz.prog w'= .ok (.tuple #[.agg #[.int .i64 f.serial,.int .i64 f.sent,f.v],.bool true]) w'):=fun w' e=>by
   have:=ft_look (h.fts.heap e) h1 h2
   rw [hg] at this
   exact this
 have KR:=hide hrow.row
 obtain ⟨fser,fsent,fl,fv⟩:=f
 dsimp only at *
 generalize hxs:(fl.map wtL).flatten=xs at *
 generalize hn:(fl.map wtL).length=m at *
 subst hfv
 clear h hf hg hrow
 generalize waiting n s.fts=wn at *
 generalize hcw:s.c.waiters=cw at *
 obtain ⟨child,serial,tag,cid⟩:=x
 unfold placeV wtV at *
 dsimp only at *
 go_enter Tryz.func103,Tryz.ntmps103
 go_wp2
 generalize hW:World.alloc _ _=W0
 have T0:Turn nO w W0:=by rw [← hW];exact (Turn.alloc _ _ _).sA
 have hsz:W0.heap.size=w.heap.size+1+1:=by rw [← hW];simp
 have x0:∃ ty,W0.heap[w.heap.size]?=some (.cells #[.int .i64 (n:Int),.string k] ty (0,0)):=by rw [← hW];exact ⟨_,new2_0 _ _ _⟩
 obtain ⟨x0_0,x0_1⟩:=eC2 x0
 have x1:∃ ty,W0.heap[w.heap.size+1]?=some (.cells #[.int .i64 child,.int .i64 serial,.int .i64 tag,.int .i64 cid] ty (0,0)):=by rw [← hW];exact ⟨_,new2_1 _ _ _⟩
 obtain ⟨x1_0,x1_1,x1_2,x1_3⟩:=eC4 x1
 have c13:=T0.cell d13 id
 have c4:=T0.cell d4 id
 have HL:=hide ((uH HH).turn T0)
 clear hW d13 d4
 have HS:=fun w' (T:Turn nO W0 w')=>And.intro T (And.intro (T.cell c13 id) (And.intro (T.cell c4 id) (And.intro (T.cell x0_0 id) (And.intro (T.cell x0_1 id) (And.intro (T.cell x1_0 id) (And.intro (T.cell x1_1 id) (And.intro (T.cell x1_2 id) (And.intro (T.cell x1_3 id) ((show Hid (Lies own τ w' bt g s) from ((uH HL).turn T)))))))))))
 go_region_held3 (fun w'=>Turn nO W0 w'∧w'.cell? ⟨bt,13,none⟩=some (.map (some g.bq))∧w'.cell? ⟨bt,4,none⟩=some (.int .i64 cw)∧w'.cell? ⟨w.heap.size,0,none⟩=some (.int .i64 (n:Int))∧w'.cell? ⟨w.heap.size,1,none⟩=some (.string k)∧w'.cell? ⟨w.heap.size+1,0,none⟩=some (.int .i64 child)∧w'.cell? ⟨w.heap.size+1,1,none⟩=some (.int .i64 serial)∧w'.cell? ⟨w.heap.size+1,2,none⟩=some (.int .i64 tag)∧w'.cell? ⟨w.heap.size+1,3,none⟩=some (.int .i64 cid)∧(Hid (Lies own τ w' bt g s))) ((go_split_ands;apply HS;all_goals (repeat (first|(with_reducible first|assumption|exact Turn.refl _ _|apply Turn.sA|apply Turn.sD|refine tN ?_ (by assumption))|((with_reducible refine Turn.sS ?_ ?_);rotate_left;· first|exact Or.inr rfl|exact Or.inr (Or.inl rfl)|exact Or.inl (by simp <;> omega))|(with_reducible refine tG ?_ (by assumption))|(with_reducible first|apply There.drew|apply There.set|refine hNo ?_ (by assumption))|assumption)))) (first|(go_at_call 122;go_split_ands;refine (uH KW _ (by assumption)).mono ?_;rintro e wq ⟨rfl,TC⟩))
 go_split_ands
 clear HS
 have TW:Turn nO W0 wq:=by assumption
 go_wp2
 have HS:=fun w' (T:Turn nO W0 w')=>And.intro T (And.intro (T.cell c13 id) (And.intro (T.cell x0_0 id) (And.intro (T.cell x0_1 id) (And.intro (T.cell x1_0 id) (And.intro (T.cell x1_1 id) (And.intro (T.cell x1_2 id) (And.intro (T.cell x1_3 id) ((show (Instr.lookup 74 (.map (some g.bq)) (.agg #[.int .i64 (n:Int),.string k]) true).run Tryz.prog w'= .ok (.tuple #[.agg #[.int .i64 fser,.int .i64 fsent,.slice fa m fc],.bool true]) w' from (uH HK _ ((T.block _ (by omega) id).trans (T0.block _ hbq id))))))))))))
 go_region_held3 (fun w'=>Turn nO W0 w'∧w'.cell? ⟨bt,13,none⟩=some (.map (some g.bq))∧w'.cell? ⟨w.heap.size,0,none⟩=some (.int .i64 (n:Int))∧w'.cell? ⟨w.heap.size,1,none⟩=some (.string k)∧w'.cell? ⟨w.heap.size+1,0,none⟩=some (.int .i64 child)∧w'.cell? ⟨w.heap.size+1,1,none⟩=some (.int .i64 serial)∧w'.cell? ⟨w.heap.size+1,2,none⟩=some (.int .i64 tag)∧w'.cell? ⟨w.heap.size+1,3,none⟩=some (.int .i64 cid)∧((Instr.lookup 74 (.map (some g.bq)) (.agg #[.int .i64 (n:Int),.string k]) true).run Tryz.prog w'= .ok (.tuple #[.agg #[.int .i64 fser,.int .i64 fsent,.slice fa m fc],.bool true]) w')) ((go_split_ands;apply HS;all_goals (repeat (first|(with_reducible first|assumption|exact Turn.refl _ _|apply Turn.sA|apply Turn.sD|refine tN ?_ (by assumption))|((with_reducible refine Turn.sS ?_ ?_);rotate_left;· first|exact Or.inr rfl|exact Or.inr (Or.inl rfl)|exact Or.inl (by simp <;> omega))|(with_reducible refine tG ?_ (by assumption))|(with_reducible first|apply There.drew|apply There.set|refine hNo ?_ (by assumption))|assumption)))) (fail)
 all_goals go_split_ands
 all_goals clear HS
 all_goals (
   generalize hV:World.drew _=V
   have TV:Turn nO W0 V:=by rw [← hV];exact TW.sA.sD
   have TWV:Turn nO wq V:=by rw [← hV];exact (Turn.alloc _ _ _).sD
   have hvb:V.heap[wq.heap.size]?=some (.cells #[.int .i64 fser,.int .i64 fsent,.slice fa m fc] 154 (0,0)):=by rw [← hV];exact new1_0 wq _
   have hvs:wq.heap.size<V.heap.size:=heap_lt hvb
   have hwqs:w.heap.size+1+1≤wq.heap.size:=by have:=TW.size;omega
   clear hV TC
   have v0:=cOf hvb 0
   have v1:=cOf hvb 1
   have v2:=cOf hvb 2
   have HLV:=hide ((uH HL).turn TV)
   have y10:=TV.cell x1_0 id
   have y11:=TV.cell x1_1 id
   have y12:=TV.cell x1_2 id
   have y13:=TV.cell x1_3 id
   have hwb:w.heap.size+1<V.heap.size:=cell_lt y10
   have KRV:Hid (V.ownsRow 0 146 4 (.slice fa m fc) m xs):=by
     have:=((uH HLV).waits _ (aget_mem (uH HF).2)).row
     dsimp only at this
     rw [hn,hxs] at this
     exact this
   go_wp2_with (at_builtin;refine wpList_append_lies _ (by rfl) _ _ _ (by rfl) 0 146 i0 _ 4 32 Tryz.underlying152 hi hz0 hz1 hz2 rfl (by omega) (.slice fa m fc) m xs (by rfl) ((uH KRV).alloc _) ⟨V.heap.size,0,none⟩ 1 1 [.int .i64 child,.int .i64 serial,.int .i64 tag,.int .i64 cid] (by rfl) (by rfl) (World.news_of_block (cs:=#[.int .i64 child,.int .i64 serial,.int .i64 tag,.int .i64 cid]) (t:=146) (fr:=(0,0)) (heap_alloc_new V _)) (by simp [Value.oneCell']) (by omega) (by unfold maxLen;omega) (by omega) (by simp) (V.heap.size+1) (by simp) ?_)
   intro gb cap w1 hown1 hgrow hat hlt
   have TA:Turn nO V (V.alloc (.cells #[.int .i64 child,.int .i64 serial,.int .i64 tag,.int .i64 cid] 146)):=Turn.alloc _ _ _
   have TG:=Turn.grown hgrow
   have hnr:∀ {b:Nat},w.heap.size≤b→¬ some b=(Value.slice fa m fc).ownBlock:=fun hb e=>absurd (uH hNb _ e).1 (by omega)
   have hB1:w1.heap[wq.heap.size]?=some (.cells #[.int .i64 fser,.int .i64 fsent,.slice fa m fc] 154 (0,0)):=(TG.block _ (Nat.lt_of_lt_of_le hvs TA.size) (hnr (by omega))).trans ((TA.block _ hvs id).trans hvb)
   have u2:=cOf hB1 2
   have r2:w1.frozen? ⟨wq.heap.size,2,none⟩=false:=fOf hB1 2
   have T1:Turn (fun k'=>some k'=(Value.slice fa m fc).ownBlock) V w1:=TA.mono (fun _ _ h=>False.elim h) |>.sT TG (fun _ _ h=>h)
   have KG:=hide (And.intro hown1 (And.intro hat hlt))
   clear hown1 hat hlt hgrow TG TA v0 v1 v2 hvb y10 y11 y12 y13
   go_wp2
   generalize hX:World.setCell _ _ _=X
   have TX:Turn (fun k'=>k'=wq.heap.size) w1 X:=by rw [← hX];exact Turn.sS (M:=fun k'=>k'=wq.heap.size) (Turn.refl _ _) (Or.inr rfl)
   have hXb:X.heap[wq.heap.size]?=some (.cells #[.int .i64 fser,.int .i64 fsent,.slice (some ⟨gb,0,none⟩) (m+1) cap] 154 (0,0)):=by rw [← hX,heap_set hB1];rfl
   clear hX hB1 u2 r2
   have TVX:Turn (fun k'=>k'=wq.heap.size∨some k'=(Value.slice fa m fc).ownBlock) V X:=(T1.mono (fun _ _ h=>Or.inr h)).sT TX (fun _ _ h=>Or.inl h)
   have hne0:∀ {b:Nat},w.heap.size≤b→b<wq.heap.size→¬ (b=wq.heap.size∨some b=(Value.slice fa m fc).ownBlock):=fun h1 h2 e=>e.elim (fun e=>by omega) (hnr h1)
   have X00:=TVX.cell (TV.cell x0_0 id) (hne0 (by dsimp only;omega) (by dsimp only;omega))
   have X01:=TVX.cell (TV.cell x0_1 id) (hne0 (by dsimp only;omega) (by dsimp only;omega))
   have X13:=TVX.cell (TV.cell c13 id) (fun e=>e.elim (fun e=>by dsimp only at e;omega) (fun e=>(uH hNb _ e).2.1 rfl))
   have z0:=cOf hXb 0
   have z1:=cOf hXb 1
   have z2:=cOf hXb 2
   have hbqV:g.bq<V.heap.size:=(uH HLV).fts.lt
   have hMX:MapIs Tryz.prog 124 X.drew g.bq (rawL placeV ftV s.fts):=(uH HLV).fts.heap (TVX.block _ hbqV (fun e=>e.elim (fun e=>by omega) (fun e=>(uH hNb _ e).2.2 rfl)))
   obtain ⟨kl,hkey⟩:=placeKey (p:=(n,k)) h1 h2
   obtain ⟨w2,hrun,hm2,ht2⟩:=map_put hMX placeKeyed Tryz.underlying74 placeV_inj hkey ⟨fser,fsent,fl ++ [⟨child,serial,tag,cid⟩],.slice (some ⟨gb,0,none⟩) (m+1) cap⟩ (by have:=(uH HF).1.few.2;unfold maxLen;omega)
   have hgrow:=ht2.grown
   have KM:=hide hm2
   simp only [placeV,ftV] at hrun
   clear hMX ht2 hm2
   have hq0:Hid (∀ k',some k'=some g.bq→k'<w.heap.size∧k'≠bt):=fun k' e=>by cases e;exact ⟨hbq,hne⟩
   have HS:=fun w' (T:Turn (fun k'=>k'=0∧False∨some k'=some g.bq) X w')=>And.intro T (And.intro (T.cell X00 (fun h=>h.elim (fun e=>e.2) (fun e=>absurd (uH hq0 _ e).1 (by dsimp only;omega)))) (And.intro (T.cell X01 (fun h=>h.elim (fun e=>e.2) (fun e=>absurd (uH hq0 _ e).1 (by dsimp only;omega)))) (And.intro (T.cell z0 (fun h=>h.elim (fun e=>e.2) (fun e=>absurd (uH hq0 _ e).1 (by dsimp only;omega)))) (And.intro (T.cell z1 (fun h=>h.elim (fun e=>e.2) (fun e=>absurd (uH hq0 _ e).1 (by dsimp only;omega)))) (And.intro (T.cell z2 (fun h=>h.elim (fun e=>e.2) (fun e=>absurd (uH hq0 _ e).1 (by dsimp only;omega)))) ((show w'.cell? ⟨bt,13,none⟩=some (.map (some g.bq)) from (T.cell X13 (fun h=>h.elim (fun e=>e.2) (fun e=>(uH hq0 _ e).2 rfl))))))))))
   go_region_held3 (fun w'=>Turn (fun k'=>k'=0∧False∨some k'=some g.bq) X w'∧w'.cell? ⟨w.heap.size,0,none⟩=some (.int .i64 (n:Int))∧w'.cell? ⟨w.heap.size,1,none⟩=some (.string k)∧w'.cell? ⟨wq.heap.size,0,none⟩=some (.int .i64 fser)∧w'.cell? ⟨wq.heap.size,1,none⟩=some (.int .i64 fsent)∧w'.cell? ⟨wq.heap.size,2,none⟩=some (.slice (some ⟨gb,0,none⟩) (m+1) cap)∧(w'.cell? ⟨bt,13,none⟩=some (.map (some g.bq)))) ((go_split_ands;apply HS;all_goals (repeat (first|(with_reducible first|assumption|exact Turn.refl _ _|apply Turn.sA|apply Turn.sD|refine tN ?_ (by assumption))|((with_reducible refine Turn.sS ?_ ?_);rotate_left;· first|exact Or.inr rfl|exact Or.inr (Or.inl rfl)|exact Or.inl (by simp <;> omega))|(with_reducible refine tG ?_ (by assumption))|(with_reducible first|apply There.drew|apply There.set|refine hNo ?_ (by assumption))|assumption)))) (fail)
   go_split_ands
   clear HS
   go_end0
   have hgr:=Turn.grown hgrow
   have hgbq:gb≠g.bq:=by
     rcases (uH KG).2.1 with e|e
     ·exact (uH hNb gb e.symm).2.2
     ·omega
   have hgbw:gb≠wq.heap.size:=by
     rcases (uH KG).2.1 with e|e
     ·have:=(uH hNb gb e.symm).1;omega
     ·omega
   have hX2:w2.heap[gb]?=w1.heap[gb]?:=(hgr.block gb (Nat.lt_of_lt_of_le (uH KG).2.2 TX.size) (fun e=>hgbq (Option.some.inj e))).trans (TX.block gb (uH KG).2.2 hgbw)
   have hTT:Turn (fun k'=>k'=g.bq∨some k'=(Value.slice fa m fc).ownBlock) wq w2 :=
     ((TWV.mono (N:=fun k'=>k'=g.bq∨some k'=(Value.slice fa m fc).ownBlock) (fun _ _ h=>False.elim h)).sT TVX (fun k' hk e=>e.elim (fun e=>by omega) Or.inr)).sD.sT hgr (fun _ _ e=>Or.inl (Option.some.inj e))
   subst hn
   subst hxs
   have HJ:=((uH HL).turn TW).joined (x:=⟨child,serial,tag,cid⟩) (uH HF).2 (uH HF).1.apart (fun p hp=>((uH HF).1.fts p hp).2.2.1) (ownsRow_block (uH KG).1 hX2) ((uH KG).2.1.imp id (fun e=>by omega)) (Nat.lt_of_lt_of_le (uH KG).2.2 (Nat.le_trans TX.size hgr.size)) (uH KM) hTT
   exact ⟨rfl,_,_,HJ.1,(Step.of_turn (T0.sT TW (fun _ _ h=>h))).trans HJ.2⟩)
theorem Step.fresh {τ:Nat} {own own2:Own} {w0 w w':World} {b x:Nat} (T:Turn nO w0 w) (hb:w0.heap.size≤b) (S:Step τ (putO own b (τ,x)) own2 w w'):Step τ own own2 w0 w':=by
  have he:∀ k,k<w0.heap.size→putO own b (τ,x) k=own k:=fun k hk=>putO_same (Or.inr hb) hk
  refine ⟨(T.mono (fun _ _ h=>False.elim h)).sT S.turn (fun k hk ⟨y,hy⟩=>⟨y,by rw [← he k hk];exact hy⟩),fun k hk=>?_⟩
  rcases S.same k (Nat.lt_of_lt_of_le hk T.size) with e|⟨⟨y,hy⟩,e⟩
  ·exact Or.inl (e.trans (he k hk))
  ·exact Or.inr ⟨⟨y,by rw [← he k hk];exact hy⟩,e⟩
theorem fetch_fresh (own:Own) (τ bt:Nat) (g:Gh) (s:PS) (n:Nat) (k:ByteArray) (tg:Int) (x:Wt) (b:Nat) (w:World) (h:Lies own τ w bt g s) (hf:s.Fine) (hn:n<6) (hk:k.size≤100) (hser:s.serial<1000000000000) (hlen:s.net.length<1000000000000) (hpar:n<s.c.parents.length)
    (hb:w.heap[b]?=some (.cells #[.int .i64 x.child,.int .i64 x.serial,.int .i64 x.tag,.int .i64 x.id] 146 (0,0))) (hno:own b=none) :
    Calls Tryz.prog 123 #[.pointer (some ⟨bt,0,none⟩),placeV (n,k),.int .i64 tg,.slice (some ⟨b,0,none⟩) 1 1] w fun r w'=>r= .returned (.tuple #[])∧∃ own2 g2,Lies own2 τ w' bt g2 (s.fetch n k tg [x] (.slice (some ⟨b,0,none⟩) 1 1))∧Step τ (putO own b (τ,16+(s.serial+1).toNat)) own2 w w'∧g.Like g2:=by
 refine fetch_new (putO own b (τ,16+(s.serial+1).toNat)) τ bt g s n k tg [x] _ _ _ w ?_ hn hk ⟨hf.small.1,hser⟩ hf.few.2 hlen hpar ?_
 ·refine h.frame (fun k' hk' ⟨y,hy⟩=>⟨rfl,?_⟩) (fun k' hk'=>?_)
  ·unfold putO
   rw [if_neg]
   rintro rfl
   rw [hno] at hy
   cases hy
  ·unfold putO
   rw [if_neg (by have:=heap_lt hb;omega)]
   exact h.top k' hk'
 ·refine ⟨⟨by simp [wtL],Or.inr ⟨b,1,_,rfl,Nat.zero_le _,hb,Nat.le_refl _,by unfold maxLen;omega,by simp,by simp [wtL]⟩⟩,fun k' hk'=>by cases hk';simp [putO]⟩
theorem wait_new (own:Own) (τ bt:Nat) (g:Gh) (s:PS) (n:Nat) (k:ByteArray) (x:Wt) (w:World) (h:Lies own τ w bt g s) (hf:s.Fine) (hn:n<6) (h2:k.size≤100) (hser:s.serial<1000000000000) (hlen:s.net.length<1000000000000) (hpar:n<s.c.parents.length) (hful:¬ s.c.waiters≤(waiting n s.fts:Int)) (hg:aget s.fts (n,k)=none) :
    Calls Tryz.prog 103 #[.pointer (some ⟨bt,0,none⟩),placeV (n,k),wtV x] w fun r w'=>r= .returned (.tuple #[])∧∃ own' g' v,Lies own' τ w' bt g' (s.fetch n k (s.tag n k) [x] v)∧Step τ own own' w w'∧g.Like g':=by
 have HH:=hide h
 have h1:n<1000:=by omega
 have KW:=hide (fun w (h:Hid (Lies own τ w bt g s))=>Waiting_lies n w h hf)
 have KT:=hide (fun w (h:Lies own τ w bt g s)=>tag_any own τ bt g s n k w h h1 h2)
 have KF:=hide (fun b w (h:Lies own τ w bt g s) hb hno=>fetch_fresh own τ bt g s n k (s.tag n k) x b w h hf hn h2 hser hlen hpar hb hno)
 have d13:w.cell? ⟨bt,13,none⟩=some (.map (some g.bq)):=cOf h.tier.block 13
 have d4:w.cell? ⟨bt,4,none⟩=some (.int .i64 s.c.waiters):=cOf h.tier.block 4
 have hbq:g.bq<w.heap.size:=h.fts.lt
 have htop:Hid (∀ k',w.heap.size≤k'→own k'=none):=h.top
 have HK:Hid (∀ w':World,w'.heap[g.bq]?=w.heap[g.bq]?→(Instr.lookup 74 (.map (some g.bq)) (.agg #[.int .i64 (n:Int),.string k]) true).run Tryz.prog w'= .ok (.tuple #[.agg #[.int .i64 0,.int .i64 0,.slice none 0 0],.bool false]) w'):=fun w' e=>by
   have:=ft_look (h.fts.heap e) h1 h2
   rw [hg] at this
   exact this
 clear h hf hg hser hlen hpar
 generalize waiting n s.fts=wn at *
 generalize hcw:s.c.waiters=cw at *
 generalize hlb:16+(s.serial+1).toNat=lb at *
 generalize htg:s.tag n k=tg at *
 have hxv:wtV x= .agg #[.int .i64 x.child,.int .i64 x.serial,.int .i64 x.tag,.int .i64 x.id]:=rfl
 rw [hxv]
 obtain ⟨child,serial,tag,cid⟩:=x
 unfold placeV at *
 dsimp only at *
 clear hxv
 go_enter Tryz.func103,Tryz.ntmps103
 go_wp2
 generalize hW:World.alloc _ _=W0
 have T0:Turn nO w W0:=by rw [← hW];exact (Turn.alloc _ _ _).sA
 have hsz:W0.heap.size=w.heap.size+1+1:=by rw [← hW];simp
 have x0:∃ ty,W0.heap[w.heap.size]?=some (.cells #[.int .i64 (n:Int),.string k] ty (0,0)):=by rw [← hW];exact ⟨_,new2_0 _ _ _⟩
 obtain ⟨x0_0,x0_1⟩:=eC2 x0
 have x1:∃ ty,W0.heap[w.heap.size+1]?=some (.cells #[.int .i64 child,.int .i64 serial,.int .i64 tag,.int .i64 cid] ty (0,0)):=by rw [← hW];exact ⟨_,new2_1 _ _ _⟩
 obtain ⟨x1_0,x1_1,x1_2,x1_3⟩:=eC4 x1
 have c13:=T0.cell d13 id
 have c4:=T0.cell d4 id
 have HL:=hide ((uH HH).turn T0)
 clear hW d13 d4
 have HS:=fun w' (T:Turn nO W0 w')=>And.intro T (And.intro (T.cell c13 id) (And.intro (T.cell c4 id) (And.intro (T.cell x0_0 id) (And.intro (T.cell x0_1 id) (And.intro (T.cell x1_0 id) (And.intro (T.cell x1_1 id) (And.intro (T.cell x1_2 id) (And.intro (T.cell x1_3 id) ((show Hid (Lies own τ w' bt g s) from ((uH HL).turn T)))))))))))
 go_region_held3 (fun w'=>Turn nO W0 w'∧w'.cell? ⟨bt,13,none⟩=some (.map (some g.bq))∧w'.cell? ⟨bt,4,none⟩=some (.int .i64 cw)∧w'.cell? ⟨w.heap.size,0,none⟩=some (.int .i64 (n:Int))∧w'.cell? ⟨w.heap.size,1,none⟩=some (.string k)∧w'.cell? ⟨w.heap.size+1,0,none⟩=some (.int .i64 child)∧w'.cell? ⟨w.heap.size+1,1,none⟩=some (.int .i64 serial)∧w'.cell? ⟨w.heap.size+1,2,none⟩=some (.int .i64 tag)∧w'.cell? ⟨w.heap.size+1,3,none⟩=some (.int .i64 cid)∧(Hid (Lies own τ w' bt g s))) ((go_split_ands;apply HS;all_goals (repeat (first|(with_reducible first|assumption|exact Turn.refl _ _|apply Turn.sA|apply Turn.sD|refine tN ?_ (by assumption))|((with_reducible refine Turn.sS ?_ ?_);rotate_left;· first|exact Or.inr rfl|exact Or.inr (Or.inl rfl)|exact Or.inl (by simp <;> omega))|(with_reducible refine tG ?_ (by assumption))|(with_reducible first|apply There.drew|apply There.set|refine hNo ?_ (by assumption))|assumption)))) (first|(go_at_call 122;go_split_ands;refine (uH KW _ (by assumption)).mono ?_;rintro e wq ⟨rfl,TC⟩))
 go_split_ands
 clear HS
 have TW:Turn nO W0 wq:=by assumption
 go_wp2
 have HS:=fun w' (T:Turn nO W0 w')=>And.intro T (And.intro (T.cell c13 id) (And.intro (T.cell x0_0 id) (And.intro (T.cell x0_1 id) (And.intro (T.cell x1_0 id) (And.intro (T.cell x1_1 id) (And.intro (T.cell x1_2 id) (And.intro (T.cell x1_3 id) ((show (Instr.lookup 74 (.map (some g.bq)) (.agg #[.int .i64 (n:Int),.string k]) true).run Tryz.prog w'= .ok (.tuple #[.agg #[.int .i64 0,.int .i64 0,.slice none 0 0],.bool false]) w' from (uH HK _ ((T.block _ (by omega) id).trans (T0.block _ hbq id))))))))))))
 go_region_held3 (fun w'=>Turn nO W0 w'∧w'.cell? ⟨bt,13,none⟩=some (.map (some g.bq))∧w'.cell? ⟨w.heap.size,0,none⟩=some (.int .i64 (n:Int))∧w'.cell? ⟨w.heap.size,1,none⟩=some (.string k)∧w'.cell? ⟨w.heap.size+1,0,none⟩=some (.int .i64 child)∧w'.cell? ⟨w.heap.size+1,1,none⟩=some (.int .i64 serial)∧w'.cell? ⟨w.heap.size+1,2,none⟩=some (.int .i64 tag)∧w'.cell? ⟨w.heap.size+1,3,none⟩=some (.int .i64 cid)∧((Instr.lookup 74 (.map (some g.bq)) (.agg #[.int .i64 (n:Int),.string k]) true).run Tryz.prog w'= .ok (.tuple #[.agg #[.int .i64 0,.int .i64 0,.slice none 0 0],.bool false]) w')) ((go_split_ands;apply HS;all_goals (repeat (first|(with_reducible first|assumption|exact Turn.refl _ _|apply Turn.sA|apply Turn.sD|refine tN ?_ (by assumption))|((with_reducible refine Turn.sS ?_ ?_);rotate_left;· first|exact Or.inr rfl|exact Or.inr (Or.inl rfl)|exact Or.inl (by simp <;> omega))|(with_reducible refine tG ?_ (by assumption))|(with_reducible first|apply There.drew|apply There.set|refine hNo ?_ (by assumption))|assumption)))) (fail)
 all_goals go_split_ands
 all_goals clear HS
 all_goals (
   generalize hV:World.drew _=V
   have TV:Turn nO W0 V:=by rw [← hV];exact TW.sA.sD
   clear hV TC
   have y00:=TV.cell x0_0 id
   have y01:=TV.cell x0_1 id
   have y10:=TV.cell x1_0 id
   have y11:=TV.cell x1_1 id
   have y12:=TV.cell x1_2 id
   have y13:=TV.cell x1_3 id
   have HLV:=hide ((uH HL).turn TV)
   have hVs:w.heap.size+1+1≤V.heap.size:=by have:=TV.size;omega
   go_wp2
   have hnm:∀ {b:Nat},w.heap.size≤b→¬ Mine own τ b:=fun hb ⟨y,hy⟩=>by rw [uH htop _ hb] at hy;cases hy
   have HS:∀ w',Turn (Mine own τ) V w'→Turn (Mine own τ) V w'∧w'.cell? ⟨w.heap.size,0,none⟩=some (.int .i64 (n:Int))∧w'.cell? ⟨w.heap.size,1,none⟩=some (.string k)∧w'.cell? ⟨w.heap.size+1,0,none⟩=some (.int .i64 child)∧w'.cell? ⟨w.heap.size+1,1,none⟩=some (.int .i64 serial)∧w'.cell? ⟨w.heap.size+1,2,none⟩=some (.int .i64 tag)∧w'.cell? ⟨w.heap.size+1,3,none⟩=some (.int .i64 cid) :=
     fun w' T=>⟨T,T.cell y00 (hnm (by dsimp only;omega)),T.cell y01 (hnm (by dsimp only;omega)),T.cell y10 (hnm (by dsimp only;omega)),T.cell y11 (hnm (by dsimp only;omega)),T.cell y12 (hnm (by dsimp only;omega)),T.cell y13 (hnm (by dsimp only;omega))⟩
   go_region_held3 (fun w'=>Turn (Mine own τ) V w'∧w'.cell? ⟨w.heap.size,0,none⟩=some (.int .i64 (n:Int))∧w'.cell? ⟨w.heap.size,1,none⟩=some (.string k)∧w'.cell? ⟨w.heap.size+1,0,none⟩=some (.int .i64 child)∧w'.cell? ⟨w.heap.size+1,1,none⟩=some (.int .i64 serial)∧w'.cell? ⟨w.heap.size+1,2,none⟩=some (.int .i64 tag)∧w'.cell? ⟨w.heap.size+1,3,none⟩=some (.int .i64 cid))
     ((go_split_ands;apply HS;first|exact SF.turn|(repeat (first|(with_reducible first|assumption|exact Turn.refl _ _|apply Turn.sA|apply Turn.sD|refine tN ?_ (by assumption))|((with_reducible refine Turn.sS ?_ ?_);rotate_left;· first|exact Or.inr rfl|exact Or.inr (Or.inl rfl)|exact Or.inl (by simp <;> omega))|(with_reducible refine tG ?_ (by assumption))|(with_reducible first|apply There.drew|apply There.set|refine hNo ?_ (by assumption))|assumption))))
     (first
       | (go_at_call 124;go_split_ands;refine (uH KT _ ((uH HLV).turn (by (repeat (first|(with_reducible first|assumption|exact Turn.refl _ _|apply Turn.sA|apply Turn.sD|refine tN ?_ (by assumption))|((with_reducible refine Turn.sS ?_ ?_);rotate_left;· first|exact Or.inr rfl|exact Or.inr (Or.inl rfl)|exact Or.inl (by simp <;> omega))|(with_reducible refine tG ?_ (by assumption))|(with_reducible first|apply There.drew|apply There.set|refine hNo ?_ (by assumption))|assumption))))).mono ?_;rintro e wt ⟨rfl,TC2⟩)
       | (go_at_call 123;go_split_ands;refine (uH KF _ _ ((uH HLV).turn (by (repeat (first|(with_reducible first|assumption|exact Turn.refl _ _|apply Turn.sA|apply Turn.sD|refine tN ?_ (by assumption))|((with_reducible refine Turn.sS ?_ ?_);rotate_left;· first|exact Or.inr rfl|exact Or.inr (Or.inl rfl)|exact Or.inl (by simp <;> omega))|(with_reducible refine tG ?_ (by assumption))|(with_reducible first|apply There.drew|apply There.set|refine hNo ?_ (by assumption))|assumption)))) (by first|exact new1_0 _ _|exact (TC2.block _ (by simp) id).trans (new1_0 _ _)) (uH htop _ (by first|omega|(have:=TC2.size;simp at this;omega)))).mono ?_;rintro e w4 ⟨rfl,own4,g4,L4,S4,GL4⟩;have SF:=Step.fresh (w0:=V) (by (repeat (first|(with_reducible first|assumption|exact Turn.refl _ _|apply Turn.sA|apply Turn.sD|refine tN ?_ (by assumption))|((with_reducible refine Turn.sS ?_ ?_);rotate_left;· first|exact Or.inr rfl|exact Or.inr (Or.inl rfl)|exact Or.inl (by simp <;> omega))|(with_reducible refine tG ?_ (by assumption))|(with_reducible first|apply There.drew|apply There.set|refine hNo ?_ (by assumption))|assumption))) (by first|exact Nat.le_refl _|(have:=TC2.size;simp at this;omega)) S4))
   all_goals (
     go_split_ands
     have HE:=hide (And.intro L4 (And.intro ((Step.of_turn (T0.sT TV (fun _ _ h=>h))).trans SF) GL4))
     clear L4 S4 SF GL4 HS
     go_wp2
     exact bodyPost_ret (v:= .tuple #[]) (by simp [results,Tryz.results103,go_sem]) rfl ⟨rfl,own4,g4,_,(uH HE).1,(uH HE).2.1,(uH HE).2.2⟩))
theorem wait_any (own:Own) (τ bt:Nat) (g:Gh) (s:PS) (n:Nat) (k:ByteArray) (x:Wt) (w:World) (h:Lies own τ w bt g s) (hf:s.Fine) (hn:n<6) (h2:k.size≤100) (hser:s.serial<1000000000000) (hl1:s.net.length<1000000000000) (hl2:s.answers.length<1000000000000) (hpar:n<s.c.parents.length) :
    Calls Tryz.prog 103 #[.pointer (some ⟨bt,0,none⟩),placeV (n,k),wtV x] w fun r w'=>r= .returned (.tuple #[])∧∃ own' g' v,Lies own' τ w' bt g' (s.wait n k x v)∧Step τ own own' w w'∧g.Like g':=by
 unfold PS.wait
 by_cases hful:s.c.waiters≤(waiting n s.fts:Int)
 ·refine (wait_full own τ bt g s n k x w h hf hl1 hl2 hful).mono ?_
  rintro e w' ⟨rfl,own',g',L,S,GL⟩
  exact ⟨rfl,own',g',.bool true,by rw [if_pos hful];exact L,S,GL⟩
 ·cases hg:aget s.fts (n,k) with
  | none =>
    refine (wait_new own τ bt g s n k x w h hf hn h2 hser hl1 hpar hful hg).mono ?_
    rintro e w' ⟨rfl,own',g',v,L,S,GL⟩
    exact ⟨rfl,own',g',v,by rw [if_neg hful];exact L,S,GL⟩
  | some f =>
    refine (wait_join own τ bt g s n k x f w h hf (by omega) h2 hful hg).mono ?_
    rintro e w' ⟨rfl,own',v,L,S⟩
    exact ⟨rfl,own',g,v,by rw [if_neg hful];exact L,S,Gh.Like.refl g⟩
end
end Go.Proofs.YtpdkojgepagbnaaGreatDoor
