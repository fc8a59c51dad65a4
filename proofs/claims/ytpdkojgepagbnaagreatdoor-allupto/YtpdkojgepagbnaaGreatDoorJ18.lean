/-
  The call that takes a message out.
  A fetch is finished: the entry is not fresh, and all are refused.
  A fetch is finished: all are told by the entry, which is fresh.
  An answer comes: there is no such fetch, or it was sent anew.
  An answer comes: a Refuse.
-/
import Derived.Test.YtpdkojgepagbnaaGreatDoorJ17
import Derived.Test.YtpdkojgepagbnaaGreatDoorJ16
namespace Go.Proofs.YtpdkojgepagbnaaGreatDoor
set_option maxRecDepth 100000
set_option maxHeartbeats 8000000
section
open Go.RowKit
open Tier (Mes Ans Conf)
attribute [local go_sem ↓] Go.wp_at_zero Go.wp_at_succ
theorem Lies.scratch {own:Own} {τ:Nat} {w:World} {bt:Nat} {g:Gh} {s:PS} (h:Lies own τ w bt g s) {b i:Nat} {v:Value} (hb:own b=none):Lies own τ (w.setCell ⟨b,i,none⟩ v) bt g s :=
  h.frame (fun k _ ⟨x,hx⟩=>⟨hSO (fun e=>by rw [e,hb] at hx;cases hx),rfl⟩) (fun k hk=>h.top k (by simpa using hk))
theorem take_any (own:Own) (τ bt:Nat) (g:Gh) (s:PS) (i:Nat) (m:Mes) (w:World) (h:Lies own τ w bt g s) (hp:s.net.length≤1000000000000) (hi:s.net[i]?=some m) :
    Calls Tryz.prog 80 #[.pointer (some ⟨bt,0,none⟩),.int .i64 (i:Int)] w fun r w'=>r= .returned (mesV m)∧∃ g',Lies own τ w' bt g' (s.taken i)∧Step τ own own w w'∧g.Like g':=by
 obtain ⟨nb,nc,cur,hv,ho,hnb,hb,hlc,hcs,hcf,hcell⟩:=h.mesAt hi
 have hlen:i<s.net.length:=(List.getElem?_eq_some_iff.1 hi).1
 have hbt:bt<w.heap.size:=h.tier.lt
 have hne:nb≠bt:=fun e=>by rw [e,h.tierO] at ho;cases ho
 have d15:w.cell? ⟨bt,15,none⟩=some (.slice (some ⟨nb,0,none⟩) s.net.length nc):=by rw [← hv];exact cOf h.tier.block 15
 have e15:w.frozen? ⟨bt,15,none⟩=false:=fOf h.tier.block 15
 have KD:=hide (fun w (hb:w.heap[nb]?=some (.cells cur 37 (0,0)))=>Delete_mes nb s.net.length nc i cur w hb hlc hcs hlen (fun v hv=>mes_one s.net v (hcf ▸ hv)) hp)
 have HT:=hide (fun w' cur'=>h.took (w':=w') (cur':=cur') hlen ho hlc hcs hcf hv)
 have HB:=hide h.tier.block
 have htop:Hid (∀ k',w.heap.size≤k'→own k'=none):=h.top
 have HBn:=hide hb
 obtain ⟨kind,frm,tto,key,serial,ver,age,pres,val⟩:=m
 obtain ⟨c0,c1,c2,c3,c4,c5,c6,c7,c8⟩:=rC9 hcell
 have hw1:IntKind.i64.wrap ((i:Int)+1)=(i:Int)+1:=by rw [IntKind.wrap_i64];omega
 have i0:(0:Int)≤(i:Int):=by omega
 have i1:(i:Int)<(s.net.length:Int):=by omega
 simp only [mesV,mesL]
 clear h hp hi hcell hb hcf hcs hlc hv hlen
 generalize s.net.length=n at *
 go_enter Tryz.func80,Tryz.ntmps80
 go_wp2_with fail
 generalize hW:World.alloc _ _=W0
 have T0:Turn nO w W0:=by rw [← hW];exact (Turn.alloc _ _ _).sA
 have hsz:W0.heap.size=w.heap.size+1+1:=by rw [← hW];simp
 have hr0:W0.heap[w.heap.size]?=some (.cells #[.int .i64 0,.int .i64 0,.int .i64 0,.string ⟨#[]⟩,.int .i64 0,.int .i64 0,.int .i64 0,.int .i64 0,.string ⟨#[]⟩] 37 (0,0)):=by rw [← hW];exact new2_0 _ _ _
 have hr1:W0.heap[w.heap.size+1]?=some (.cells #[.int .i64 kind,.int .i64 frm,.int .i64 tto,.string key,.int .i64 serial,.int .i64 ver,.int .i64 age,.int .i64 pres,.string val] 37 (0,0)):=by rw [← hW];exact new2_1 _ _ _
 clear hW
 refine (uH KD W0 ((T0.block nb hnb id).trans (uH HBn))).mono ?_
 rintro r W1 ⟨rfl,T1,cur',hb1,hsz1,htk1⟩
 have hnw:∀ {b:Nat},w.heap.size≤b→¬ b=nb:=fun h e=>by omega
 have hbt1:W1.heap[bt]?=some (.cells (s.ts g).cells 77 (0,0)):=(T1.block bt (by omega) (fun e=>hne e.symm)).trans ((T0.block bt hbt id).trans (uH HB))
 have q15:W1.cell? ⟨bt,15,none⟩=some g.nv:=cOf hbt1 15
 have q15f:W1.frozen? ⟨bt,15,none⟩=false:=fOf hbt1 15
 have hr0':=(T1.block w.heap.size (by omega) (hnw (Nat.le_refl _))).trans hr0
 have hr1':=(T1.block (w.heap.size+1) (by omega) (hnw (by omega))).trans hr1
 have z0:=cOf hr1' 0
 have z1:=cOf hr1' 1
 have z2:=cOf hr1' 2
 have z3:=cOf hr1' 3
 have z4:=cOf hr1' 4
 have z5:=cOf hr1' 5
 have z6:=cOf hr1' 6
 have z7:=cOf hr1' 7
 have z8:=cOf hr1' 8
 have o0:=cOf hr0' 0
 have o1:=cOf hr0' 1
 have o2:=cOf hr0' 2
 have o3:=cOf hr0' 3
 have o4:=cOf hr0' 4
 have o5:=cOf hr0' 5
 have o6:=cOf hr0' 6
 have o7:=cOf hr0' 7
 have o8:=cOf hr0' 8
 have ofr:∀ i,W1.frozen? ⟨w.heap.size,i,none⟩=false:=fun i=>fOf hr0' i
 have e0:¬ bt=w.heap.size:=by omega
 have e1:¬ bt=w.heap.size+1:=by omega
 have HT1:=hide (And.intro T0 (And.intro T1 (And.intro hb1 (And.intro hsz1 (And.intro htk1 hbt1)))))
 clear T1 hb1 hsz1 htk1 hr0 hr1 hr0' hr1' hbt1 c0 c1 c2 c3 c4 c5 c6 c7 c8 d15 e15 T0
 go_wp2
 obtain ⟨T0,T1,hb1,hsz1,htk1,hbt1⟩:=uH HT1
 have TY:Turn (fun k=>k=nb∨k=bt) w (W1.setCell ⟨bt,15,none⟩ (.slice (some ⟨nb,0,none⟩) (n - 1) nc)):=(((T0.mono (fun _ _ h=>h.elim)).sT T1 (fun _ _ h=>Or.inl h))).sS (Or.inr (Or.inr rfl))
 obtain ⟨LY,SY⟩:=uH HT (W1.setCell ⟨bt,15,none⟩ (.slice (some ⟨nb,0,none⟩) (n - 1) nc)) cur' TY ((hSO hne).trans hb1) hsz1 htk1 (by rw [heap_set hbt1];rfl)
 have hnone:own w.heap.size=none:=uH htop _ (Nat.le_refl _)
 have HE:=hide (And.intro (((((((((LY.scratch hnone (i:=0) (v:= .int .i64 kind)).scratch hnone (i:=1) (v:= .int .i64 frm)).scratch hnone (i:=2) (v:= .int .i64 tto)).scratch hnone (i:=3) (v:= .string key)).scratch hnone (i:=4) (v:= .int .i64 serial)).scratch hnone (i:=5) (v:= .int .i64 ver)).scratch hnone (i:=6) (v:= .int .i64 age)).scratch hnone (i:=7) (v:= .int .i64 pres)).scratch hnone (i:=8) (v:= .string val)) (Step.mk (τ:=τ) (own:=own) (own':=own) (((((((((SY.turn.sS (p:=⟨w.heap.size,0,none⟩) (v:= .int .i64 kind) (Or.inl (Nat.le_refl _))).sS (p:=⟨w.heap.size,1,none⟩) (v:= .int .i64 frm) (Or.inl (Nat.le_refl _))).sS (p:=⟨w.heap.size,2,none⟩) (v:= .int .i64 tto) (Or.inl (Nat.le_refl _))).sS (p:=⟨w.heap.size,3,none⟩) (v:= .string key) (Or.inl (Nat.le_refl _))).sS (p:=⟨w.heap.size,4,none⟩) (v:= .int .i64 serial) (Or.inl (Nat.le_refl _))).sS (p:=⟨w.heap.size,5,none⟩) (v:= .int .i64 ver) (Or.inl (Nat.le_refl _))).sS (p:=⟨w.heap.size,6,none⟩) (v:= .int .i64 age) (Or.inl (Nat.le_refl _))).sS (p:=⟨w.heap.size,7,none⟩) (v:= .int .i64 pres) (Or.inl (Nat.le_refl _))).sS (p:=⟨w.heap.size,8,none⟩) (v:= .string val) (Or.inl (Nat.le_refl _))) (fun _ _=>Or.inl rfl)))
 clear LY SY TY HT1 HT KD T0 T1 hb1 hsz1 htk1 hbt1
 exact bodyPost_ret (v:= .agg #[.int .i64 kind,.int .i64 frm,.int .i64 tto,.string key,.int .i64 serial,.int .i64 ver,.int .i64 age,.int .i64 pres,.string val]) (by simp [results,Tryz.results80,go_sem,o0,o1,o2,o3,o4,o5,o6,o7,o8]) rfl ⟨rfl,_,(uH HE).1,(uH HE).2,⟨rfl,rfl,rfl,rfl,rfl,rfl⟩⟩
theorem finish_stale (own:Own) (τ bt:Nat) (g:Gh) (s:PS) (n:Nat) (k:ByteArray) (e:Ent) (f:Ft) (w:World) (h:Lies own τ w bt g s) (hf:s.Fine) (hn:n<6) (h2:k.size≤100) (hul:(s.used n).length≤1000) (he:s.entry n k=some e) (hft:aget s.fts (n,k)=some f) (hage:¬ ageAt s.c.drift (s.clk n) e≤s.c.budget) (hl1:s.net.length+f.l.length<1000000000000) (hl2:s.answers.length+f.l.length<1000000000000) :
    Calls Tryz.prog 128 #[.pointer (some ⟨bt,0,none⟩),placeV (n,k)] w fun r w'=>r= .returned (.tuple #[])∧∃ own' g',Lies own' τ w' bt g' (((s.use n k).over n k).refuseL n k f.l)∧Step τ own own' w w'∧g.Like g':=by
 have HH:=hide h
 have htop:Hid (∀ k',w.heap.size≤k'→own k'=none):=h.top
 have d12:w.cell? ⟨bt,12,none⟩=some (.pointer (some ⟨g.be,0,none⟩)):=cOf h.tier.block 12
 have hfe:e.Fine (s.clk n):=(hf.ents _ (aget_mem he)).1
 have KU:=hide (fun w (h:Lies own τ w bt g s)=>Use_any own τ bt g s n k w h hn hul)
 have KA:=hide (fun w (h:Hid (Lies own τ w bt g (s.use n k)))=>At_lies n k w h (by omega) h2)
 have KI:Hid (∀ w,Lies own τ w bt g (s.use n k)→Calls Tryz.prog 102 #[.pointer (some ⟨bt,0,none⟩),.int .i64 (n:Int),entV e] w fun r w'=>r= .returned (.bool false)∧Turn nO w w'):=fun w h=>by
   have:=isFresh_any bt (s.ts g) n e w h.tier (hf.ts g) hn hfe
   rw [show decide (ageAt (s.ts g).drift ((s.ts g).clk n) e≤(s.ts g).budget)=false from decide_eq_false hage] at this
   exact this
 have KR:=hide (fun w (h:Lies own τ w bt g (s.use n k))=>refuseAll_any own τ bt g (s.use n k) n k f w h hf.apart (fun p hp=>(hf.fts p hp).2.2.1) hft (by omega) h2 hl1 hl2)
 rw [show (s.use n k).entry n k=some e from he] at KA
 clear h hf hl1 hl2 he hage hfe hul hft
 obtain ⟨ver,pres,val,base,since⟩:=e
 simp only [entV,placeV,Option.getD,Option.isSome] at KA KI KU KR ⊢
 go_enter Tryz.func128,Tryz.ntmps128
 go_wp2
 generalize hW:World.alloc _ _=W0
 have T0:Turn nO w W0:=by rw [← hW];exact (Turn.alloc _ _ _)
 have hsz:W0.heap.size=w.heap.size+1:=by rw [← hW];simp
 have x0:∃ ty,W0.heap[w.heap.size]?=some (.cells #[.int .i64 (n:Int),.string k] ty (0,0)):=by rw [← hW];exact ⟨_,new1_0 _ _⟩
 obtain ⟨x0_0,x0_1⟩:=eC2 x0
 have c12:=T0.cell d12 id
 have HL:=hide ((uH HH).turn T0)
 clear hW d12
 have hno:∀ {b:Nat},w.heap.size≤b→own b=none:=fun hb=>uH htop _ hb
 have hS4:Hid (∀ (w':World) (s':PS),Lies own τ w' bt g s'→w'.cell? ⟨w.heap.size,0,none⟩=some (.int .i64 (n:Int))→w'.cell? ⟨w.heap.size,1,none⟩=some (.string k)→w'.cell? ⟨bt,12,none⟩=some (.pointer (some ⟨g.be,0,none⟩))∧w'.cell? ⟨w.heap.size,0,none⟩=some (.int .i64 (n:Int))∧w'.cell? ⟨w.heap.size,1,none⟩=some (.string k)):=fun w' s' hl a b=>⟨cOf hl.tier.block 12,a,b⟩
 go_region_held3 (fun w'=>w'.cell? ⟨bt,12,none⟩=some (.pointer (some ⟨g.be,0,none⟩))∧w'.cell? ⟨w.heap.size,0,none⟩=some (.int .i64 (n:Int))∧w'.cell? ⟨w.heap.size,1,none⟩=some (.string k))
   ((first|exact uH hS4 _ s ((uH HL).turn (Turn.drew _ _)) x0_0 x0_1|exact uH hS4 _ _ L6 (S6.cell (w:=W0.drew) x0_0 (hno (Nat.le_refl _))) (S6.cell (w:=W0.drew) x0_1 (hno (Nat.le_refl _)))))
   (first|(go_at_call 104;refine (uH KU _ ((uH HL).turn (Turn.drew _ _))).mono ?_;rintro e W1 ⟨rfl,L6,S6⟩))
 go_split_ands
 have x0_0:=S6.cell (w:=W0.drew) x0_0 (hno (Nat.le_refl _))
 have x0_1:=S6.cell (w:=W0.drew) x0_1 (hno (Nat.le_refl _))
 have HS1:=hide ((Step.of_turn (τ:=τ) (own:=own) (T0.sD)).trans S6)
 have c12:W1.cell? ⟨bt,12,none⟩=some (.pointer (some ⟨g.be,0,none⟩)):=cOf L6.tier.block 12
 have hsz0:w.heap.size+1≤W1.heap.size:=by rw [← hsz];exact S6.turn.size
 have HL:=hide L6
 clear L6 S6 hS4 hsz x0 T0
 rename_i W0' _ _ _ _ _ _ _
 generalize hW0:W1=W0 at *
 obtain ⟨B,hsz⟩:∃ B,W0.heap.size=B:=⟨_,rfl⟩
 rw [hsz] at hsz0
 go_wp2
 have HS:=fun w' (T:Turn nO W0 w')=>And.intro T (And.intro (T.cell c12 id) (And.intro (T.cell x0_0 id) (And.intro (T.cell x0_1 id) ((show Hid (Lies own τ w' bt g (s.use n k)) from ((uH HL).turn T))))))
 go_region_held3 (fun w'=>Turn nO W0 w'∧w'.cell? ⟨bt,12,none⟩=some (.pointer (some ⟨g.be,0,none⟩))∧w'.cell? ⟨w.heap.size,0,none⟩=some (.int .i64 (n:Int))∧w'.cell? ⟨w.heap.size,1,none⟩=some (.string k)∧(Hid (Lies own τ w' bt g (s.use n k)))) ((go_split_ands;apply HS;all_goals (repeat (first|(with_reducible first|assumption|exact Turn.refl _ _|apply Turn.sA|apply Turn.sD|refine tN ?_ (by assumption))|((with_reducible refine Turn.sS ?_ ?_);rotate_left;· first|exact Or.inr rfl|exact Or.inr (Or.inl rfl)|exact Or.inl (by simp <;> omega))|(with_reducible refine tG ?_ (by assumption))|(with_reducible first|apply There.drew|apply There.set|refine hNo ?_ (by assumption))|assumption)))) (first|(go_at_call 65;go_split_ands;refine (uH KA _ (by assumption)).mono ?_;rintro e wq ⟨rfl,TC⟩;(try (have TH:=there_new (n:=4) TC hsz (by simp);have q0:=peek_some (TH.are 0 (by omega));have q1:=peek_some (TH.are 1 (by omega));have q2:=peek_some (TH.are 2 (by omega));have q3:=peek_some (TH.are 3 (by omega));have q4:=peek_some (TH.are 4 (by omega));have r0:=TH.free 0;have r1:=TH.free 1;have r2:=TH.free 2;have r3:=TH.free 3;have r4:=TH.free 4))))
 all_goals go_split_ands
 all_goals clear HS
 all_goals (first
   | (generalize hX:World.alloc _ _=X
      have TX:Turn nO W0 X:=by rw [← hX];assumption
      have z0:X.cell? ⟨wq.heap.size,0,none⟩=some (.int .i64 ver):=by rw [← hX];exact cOf (new1_0 wq _) 0
      have z1:X.cell? ⟨wq.heap.size,1,none⟩=some (.int .i64 pres):=by rw [← hX];exact cOf (new1_0 wq _) 1
      have z2:X.cell? ⟨wq.heap.size,2,none⟩=some (.string val):=by rw [← hX];exact cOf (new1_0 wq _) 2
      have z3:X.cell? ⟨wq.heap.size,3,none⟩=some (.int .i64 base):=by rw [← hX];exact cOf (new1_0 wq _) 3
      have z4:X.cell? ⟨wq.heap.size,4,none⟩=some (.int .i64 since):=by rw [← hX];exact cOf (new1_0 wq _) 4
      have f0:X.frozen? ⟨wq.heap.size,0,none⟩=false:=by rw [← hX];exact fOf (new1_0 wq _) 0
      have f1:X.frozen? ⟨wq.heap.size,1,none⟩=false:=by rw [← hX];exact fOf (new1_0 wq _) 1
      have f2:X.frozen? ⟨wq.heap.size,2,none⟩=false:=by rw [← hX];exact fOf (new1_0 wq _) 2
      have f3:X.frozen? ⟨wq.heap.size,3,none⟩=false:=by rw [← hX];exact fOf (new1_0 wq _) 3
      have f4:X.frozen? ⟨wq.heap.size,4,none⟩=false:=by rw [← hX];exact fOf (new1_0 wq _) 4
      have hBw:w.heap.size≤wq.heap.size:=Nat.le_trans (by omega:w.heap.size≤B) (hsz ▸ TC.size)
      have hB0:W0.heap.size≤wq.heap.size:=TC.size
      clear hX TC
      generalize wq.heap.size=B at *)
   | (generalize hX:World.setCell _ _ _=X
      have TX:Turn nO W0 X:=by rw [← hX];assumption
      have z0:X.cell? ⟨B,0,none⟩=some (.int .i64 ver):=by rw [← hX];simp [go_sem,TH.are 0 (by omega)]
      have z1:X.cell? ⟨B,1,none⟩=some (.int .i64 pres):=by rw [← hX];simp [go_sem,TH.are 1 (by omega)]
      have z2:X.cell? ⟨B,2,none⟩=some (.string val):=by rw [← hX];simp [go_sem,TH.are 2 (by omega)]
      have z3:X.cell? ⟨B,3,none⟩=some (.int .i64 base):=by rw [← hX];simp [go_sem,TH.are 3 (by omega)]
      have z4:X.cell? ⟨B,4,none⟩=some (.int .i64 since):=by rw [← hX];simp [go_sem,TH.are 4 (by omega)]
      have f0:X.frozen? ⟨B,0,none⟩=false:=by rw [← hX];simp [go_sem,TH.free 0]
      have f1:X.frozen? ⟨B,1,none⟩=false:=by rw [← hX];simp [go_sem,TH.free 1]
      have f2:X.frozen? ⟨B,2,none⟩=false:=by rw [← hX];simp [go_sem,TH.free 2]
      have f3:X.frozen? ⟨B,3,none⟩=false:=by rw [← hX];simp [go_sem,TH.free 3]
      have f4:X.frozen? ⟨B,4,none⟩=false:=by rw [← hX];simp [go_sem,TH.free 4]
      have hBw:w.heap.size≤B:=by omega
      have hB0:W0.heap.size≤B:=by omega
      clear hX TC
      clear TH q0 r0))
 all_goals (have y0_0:=TX.cell x0_0 id)
 all_goals (have y0_1:=TX.cell x0_1 id)
 all_goals (
   have HLX:=hide ((uH HL).turn TX)
   go_wp2_with fail
   refine (uH KI X (uH HLX)).mono ?_
   rintro e w5 ⟨rfl,T5⟩
   have u00:=T5.cell y0_0 id
   have u01:=T5.cell y0_1 id
   have HL5:=hide ((uH HLX).turn T5)
   go_wp2_with fail
   refine (uH KR _ (uH HL5)).mono ?_
   rintro e w6 ⟨rfl,own6,g6,L6,S6,GL6⟩
   have HE:=hide (And.intro L6 (And.intro (((uH HS1).trans (Step.of_turn (TX.sT T5 (fun _ _ h=>h)))).trans S6) GL6))
   clear L6 S6 GL6
   go_wp2
   exact bodyPost_ret (v:= .tuple #[]) (by simp [results,Tryz.results128,go_sem]) rfl ⟨rfl,own6,g6,(uH HE).1,(uH HE).2.1,(uH HE).2.2⟩)
theorem PS.tell_net (s:PS) (n:Nat) (x:Wt) (e:See):(s.tell n x e).net.length≤s.net.length+1∧(s.tell n x e).answers.length≤s.answers.length+1∧(s.tell n x e).c=s.c∧(s.tell n x e).clk=s.clk:=by
  unfold PS.tell
  split
  ·simp
  ·split <;> simp
theorem PS.tellL_net (n:Nat) (e:See):∀ (l:List Wt) (s:PS),(s.tellL n e l).net.length≤s.net.length+l.length∧(s.tellL n e l).answers.length≤s.answers.length+l.length
  | [],s=>by simp [PS.tellL]
  | x :: r,s=>by
    have h1:=PS.tell_net s n x e
    have h2:=PS.tellL_net n e r (s.tell n x e)
    simp only [PS.tellL,List.foldl_cons,List.length_cons] at *
    omega
theorem PS.tellL_c (n:Nat) (e:See):∀ (l:List Wt) (s:PS),(s.tellL n e l).c=s.c∧(s.tellL n e l).clk=s.clk
  | [],s=>⟨rfl,rfl⟩
  | x :: r,s=>by
    have h1:=PS.tell_net s n x e
    have h2:=PS.tellL_c n e r (s.tell n x e)
    exact ⟨h2.1.trans h1.2.2.1,h2.2.trans h1.2.2.2⟩
theorem PS.tellL_snoc (s:PS) (n:Nat) (e:See) (l:List Wt) (i:Nat) (x:Wt) (h:l[i]?=some x):s.tellL n e (l.take (i+1))=(s.tellL n e (l.take i)).tell n x e:=by
  rw [List.take_add_one,h]
  simp [PS.tellL]
theorem finish_fresh (own:Own) (τ bt:Nat) (g:Gh) (s:PS) (n:Nat) (k:ByteArray) (e:Ent) (f:Ft) (w:World) (h:Lies own τ w bt g s) (hf:s.Fine) (hn:n<6) (h2:k.size≤100) (hul:(s.used n).length≤1000) (he:s.entry n k=some e) (hft:aget s.fts (n,k)=some f) (hage:ageAt s.c.drift (s.clk n) e≤s.c.budget) (hl1:s.net.length+f.l.length<1000000000000) (hl2:s.answers.length+f.l.length<1000000000000) :
    Calls Tryz.prog 128 #[.pointer (some ⟨bt,0,none⟩),placeV (n,k)] w fun r w'=>r= .returned (.tuple #[])∧∃ own' g',Lies own' τ w' bt g' (((s.use n k).over n k).tellL n (seen k e (ageAt s.c.drift (s.clk n) e)) f.l)∧Step τ own own' w w'∧g.Like g':=by
 have HH:=hide h
 have htop:Hid (∀ k',w.heap.size≤k'→own k'=none):=h.top
 have d12:w.cell? ⟨bt,12,none⟩=some (.pointer (some ⟨g.be,0,none⟩)):=cOf h.tier.block 12
 have hfe:e.Fine (s.clk n):=(hf.ents _ (aget_mem he)).1
 have KU:=hide (fun w (h:Lies own τ w bt g s)=>Use_any own τ bt g s n k w h hn hul)
 have KA:=hide (fun w (h:Hid (Lies own τ w bt g (s.use n k)))=>At_lies n k w h (by omega) h2)
 have KI:Hid (∀ w,Lies own τ w bt g (s.use n k)→Calls Tryz.prog 102 #[.pointer (some ⟨bt,0,none⟩),.int .i64 (n:Int),entV e] w fun r w'=>r= .returned (.bool true)∧Turn nO w w'):=fun w h=>by
   have:=isFresh_any bt (s.ts g) n e w h.tier (hf.ts g) hn hfe
   rw [show decide (ageAt (s.ts g).drift ((s.ts g).clk n) e≤(s.ts g).budget)=true from decide_eq_true hage] at this
   exact this
 obtain ⟨fa,fc,hfv⟩:=row_form (h.waits _ (aget_mem hft)).row
 have hfl:(f.l.map wtL).length=f.l.length:=by simp
 dsimp only at hfv
 rw [hfl] at hfv
 have KE:=hide (fun w (h:Lies own τ w bt g (s.use n k))=>end_any own τ bt g (s.use n k) n k f w h hf.apart (fun p hp=>(hf.fts p hp).2.2.1) hft (by omega) h2)
 rw [hfv] at KE
 have KS:Hid (∀ (own:Own) (g:Gh) (s':PS) (w:World),s'.c=s.c→s'.clk=s.clk→Lies own τ w bt g s'→Calls Tryz.prog 66 #[.pointer (some ⟨bt,0,none⟩),placeV (n,k),entV e] w fun r w'=>r= .returned (seeV (seen k e (ageAt s.c.drift (s.clk n) e)))∧Turn nO w w'):=fun own g s' w h1 h3 h=>by
   have h4:(s'.ts g).Fine:=⟨by show 0≤s'.c.drift;rw [h1];exact (hf.ts g).d0,by show s'.c.drift≤_;rw [h1];exact (hf.ts g).d1,by show ∀ n,0≤s'.clk n;rw [h3];exact (hf.ts g).c0,by show ∀ n,s'.clk n≤_;rw [h3];exact (hf.ts g).c1⟩
   have:=shown_any bt (s'.ts g) n k e w h.tier h4 hn (by show e.Fine (s'.clk n);rw [h3];exact hfe)
   rw [show (s'.ts g).drift=s.c.drift from by show s'.c.drift=_;rw [h1],show (s'.ts g).clk n=s.clk n from by show s'.clk n=_;rw [h3]] at this
   exact this
 have hfl9:f.l.length<1000000000000:=by omega
 generalize hag:ageAt s.c.drift (s.clk n) e=ag at *
 generalize hs1:(s.use n k).over n k=s1 at *
 have hse:seen k e ag=⟨k,e.ver,e.pres,e.val,ag⟩:=rfl
 have hsv:seeV (seen k e ag)= .agg #[.string k,.int .i64 e.ver,.int .i64 e.pres,.string e.val,.int .i64 ag]:=rfl
 generalize hsee:seen k e ag=see at *
 have hln1:Hid (s1.net.length+f.l.length<1000000000000∧s1.answers.length+f.l.length<1000000000000):=by rw [← hs1];exact ⟨hl1,hl2⟩
 have hs1c:Hid (s1.c=s.c∧s1.clk=s.clk):=by rw [← hs1];exact ⟨rfl,rfl⟩
 have hKE:({ s.use n k with fts:=adel (s.use n k).fts (n,k) }:PS)=s1:=hs1
 rw [hKE] at KE
 rw [show (s.use n k).entry n k=some e from he] at KA
 clear h hf hl1 hl2 he hage hfe hul hft hfv hfl hs1 hKE hsee hse
 generalize f.l=L at *
 obtain ⟨ver,pres,val,base,since⟩:=e
 simp only [entV,placeV,Option.getD,Option.isSome] at KA KI KU KE KS hsv ⊢
 go_enter Tryz.func128,Tryz.ntmps128
 go_wp2
 generalize hW:World.alloc _ _=W0
 have T0:Turn nO w W0:=by rw [← hW];exact (Turn.alloc _ _ _)
 have hsz:W0.heap.size=w.heap.size+1:=by rw [← hW];simp
 have x0:∃ ty,W0.heap[w.heap.size]?=some (.cells #[.int .i64 (n:Int),.string k] ty (0,0)):=by rw [← hW];exact ⟨_,new1_0 _ _⟩
 obtain ⟨x0_0,x0_1⟩:=eC2 x0
 have c12:=T0.cell d12 id
 have HL:=hide ((uH HH).turn T0)
 clear hW d12
 have hno:∀ {b:Nat},w.heap.size≤b→own b=none:=fun hb=>uH htop _ hb
 have hS4:Hid (∀ (w':World) (s':PS),Lies own τ w' bt g s'→w'.cell? ⟨w.heap.size,0,none⟩=some (.int .i64 (n:Int))→w'.cell? ⟨w.heap.size,1,none⟩=some (.string k)→w'.cell? ⟨bt,12,none⟩=some (.pointer (some ⟨g.be,0,none⟩))∧w'.cell? ⟨w.heap.size,0,none⟩=some (.int .i64 (n:Int))∧w'.cell? ⟨w.heap.size,1,none⟩=some (.string k)):=fun w' s' hl a b=>⟨cOf hl.tier.block 12,a,b⟩
 go_region_held3 (fun w'=>w'.cell? ⟨bt,12,none⟩=some (.pointer (some ⟨g.be,0,none⟩))∧w'.cell? ⟨w.heap.size,0,none⟩=some (.int .i64 (n:Int))∧w'.cell? ⟨w.heap.size,1,none⟩=some (.string k))
   ((first|exact uH hS4 _ s ((uH HL).turn (Turn.drew _ _)) x0_0 x0_1|exact uH hS4 _ _ L6 (S6.cell (w:=W0.drew) x0_0 (hno (Nat.le_refl _))) (S6.cell (w:=W0.drew) x0_1 (hno (Nat.le_refl _)))))
   (first|(go_at_call 104;refine (uH KU _ ((uH HL).turn (Turn.drew _ _))).mono ?_;rintro e W1 ⟨rfl,L6,S6⟩))
 go_split_ands
 have x0_0:=S6.cell (w:=W0.drew) x0_0 (hno (Nat.le_refl _))
 have x0_1:=S6.cell (w:=W0.drew) x0_1 (hno (Nat.le_refl _))
 have HS1:=hide ((Step.of_turn (τ:=τ) (own:=own) (T0.sD)).trans S6)
 have c12:W1.cell? ⟨bt,12,none⟩=some (.pointer (some ⟨g.be,0,none⟩)):=cOf L6.tier.block 12
 have hsz0:w.heap.size+1≤W1.heap.size:=by rw [← hsz];exact S6.turn.size
 have HL:=hide L6
 clear L6 S6 hS4 hsz x0 T0
 rename_i W0' _ _ _ _ _ _ _
 generalize hW0:W1=W0 at *
 obtain ⟨B,hsz⟩:∃ B,W0.heap.size=B:=⟨_,rfl⟩
 rw [hsz] at hsz0
 go_wp2
 have HS:=fun w' (T:Turn nO W0 w')=>And.intro T (And.intro (T.cell c12 id) (And.intro (T.cell x0_0 id) (And.intro (T.cell x0_1 id) ((show Hid (Lies own τ w' bt g (s.use n k)) from ((uH HL).turn T))))))
 go_region_held3 (fun w'=>Turn nO W0 w'∧w'.cell? ⟨bt,12,none⟩=some (.pointer (some ⟨g.be,0,none⟩))∧w'.cell? ⟨w.heap.size,0,none⟩=some (.int .i64 (n:Int))∧w'.cell? ⟨w.heap.size,1,none⟩=some (.string k)∧(Hid (Lies own τ w' bt g (s.use n k)))) ((go_split_ands;apply HS;all_goals (repeat (first|(with_reducible first|assumption|exact Turn.refl _ _|apply Turn.sA|apply Turn.sD|refine tN ?_ (by assumption))|((with_reducible refine Turn.sS ?_ ?_);rotate_left;· first|exact Or.inr rfl|exact Or.inr (Or.inl rfl)|exact Or.inl (by simp <;> omega))|(with_reducible refine tG ?_ (by assumption))|(with_reducible first|apply There.drew|apply There.set|refine hNo ?_ (by assumption))|assumption)))) (first|(go_at_call 65;go_split_ands;refine (uH KA _ (by assumption)).mono ?_;rintro e wq ⟨rfl,TC⟩;(try (have TH:=there_new (n:=4) TC hsz (by simp);have q0:=peek_some (TH.are 0 (by omega));have q1:=peek_some (TH.are 1 (by omega));have q2:=peek_some (TH.are 2 (by omega));have q3:=peek_some (TH.are 3 (by omega));have q4:=peek_some (TH.are 4 (by omega));have r0:=TH.free 0;have r1:=TH.free 1;have r2:=TH.free 2;have r3:=TH.free 3;have r4:=TH.free 4))))
 all_goals go_split_ands
 all_goals clear HS
 all_goals (first
   | (generalize hX:World.alloc _ _=X
      have TX:Turn nO W0 X:=by rw [← hX];assumption
      have z0:X.cell? ⟨wq.heap.size,0,none⟩=some (.int .i64 ver):=by rw [← hX];exact cOf (new1_0 wq _) 0
      have z1:X.cell? ⟨wq.heap.size,1,none⟩=some (.int .i64 pres):=by rw [← hX];exact cOf (new1_0 wq _) 1
      have z2:X.cell? ⟨wq.heap.size,2,none⟩=some (.string val):=by rw [← hX];exact cOf (new1_0 wq _) 2
      have z3:X.cell? ⟨wq.heap.size,3,none⟩=some (.int .i64 base):=by rw [← hX];exact cOf (new1_0 wq _) 3
      have z4:X.cell? ⟨wq.heap.size,4,none⟩=some (.int .i64 since):=by rw [← hX];exact cOf (new1_0 wq _) 4
      have f0:X.frozen? ⟨wq.heap.size,0,none⟩=false:=by rw [← hX];exact fOf (new1_0 wq _) 0
      have f1:X.frozen? ⟨wq.heap.size,1,none⟩=false:=by rw [← hX];exact fOf (new1_0 wq _) 1
      have f2:X.frozen? ⟨wq.heap.size,2,none⟩=false:=by rw [← hX];exact fOf (new1_0 wq _) 2
      have f3:X.frozen? ⟨wq.heap.size,3,none⟩=false:=by rw [← hX];exact fOf (new1_0 wq _) 3
      have f4:X.frozen? ⟨wq.heap.size,4,none⟩=false:=by rw [← hX];exact fOf (new1_0 wq _) 4
      have hBw:w.heap.size≤wq.heap.size:=Nat.le_trans (by omega:w.heap.size≤B) (hsz ▸ TC.size)
      have hB0:W0.heap.size≤wq.heap.size:=TC.size
      clear hX TC
      generalize wq.heap.size=B at *)
   | (generalize hX:World.setCell _ _ _=X
      have TX:Turn nO W0 X:=by rw [← hX];assumption
      have z0:X.cell? ⟨B,0,none⟩=some (.int .i64 ver):=by rw [← hX];simp [go_sem,TH.are 0 (by omega)]
      have z1:X.cell? ⟨B,1,none⟩=some (.int .i64 pres):=by rw [← hX];simp [go_sem,TH.are 1 (by omega)]
      have z2:X.cell? ⟨B,2,none⟩=some (.string val):=by rw [← hX];simp [go_sem,TH.are 2 (by omega)]
      have z3:X.cell? ⟨B,3,none⟩=some (.int .i64 base):=by rw [← hX];simp [go_sem,TH.are 3 (by omega)]
      have z4:X.cell? ⟨B,4,none⟩=some (.int .i64 since):=by rw [← hX];simp [go_sem,TH.are 4 (by omega)]
      have f0:X.frozen? ⟨B,0,none⟩=false:=by rw [← hX];simp [go_sem,TH.free 0]
      have f1:X.frozen? ⟨B,1,none⟩=false:=by rw [← hX];simp [go_sem,TH.free 1]
      have f2:X.frozen? ⟨B,2,none⟩=false:=by rw [← hX];simp [go_sem,TH.free 2]
      have f3:X.frozen? ⟨B,3,none⟩=false:=by rw [← hX];simp [go_sem,TH.free 3]
      have f4:X.frozen? ⟨B,4,none⟩=false:=by rw [← hX];simp [go_sem,TH.free 4]
      have hBw:w.heap.size≤B:=by omega
      have hB0:W0.heap.size≤B:=by omega
      clear hX TC
      clear TH q0 r0))
 all_goals (have y0_0:=TX.cell x0_0 id)
 all_goals (have y0_1:=TX.cell x0_1 id)
 all_goals (
   have HLX:=hide ((uH HL).turn TX)
   go_wp2_with fail
   refine (uH KI X (uH HLX)).mono ?_
   rintro e w5 ⟨rfl,T5⟩
   have u00:=T5.cell y0_0 id
   have u01:=T5.cell y0_1 id
   have HL5:=hide ((uH HLX).turn T5)
   have hnoX:own B=none:=hno hBw
   have t0:=T5.cell z0 id
   have t1:=T5.cell z1 id
   have t2:=T5.cell z2 id
   have t3:=T5.cell z3 id
   have t4:=T5.cell z4 id
   go_wp2_with fail
   refine (uH KE _ (uH HL5)).mono ?_
   rintro e w6 ⟨rfl,own6,L6,S6,R6⟩
   have hno6:own6 w.heap.size=none:=S6.free (cell_lt u00) (hno (Nat.le_refl _))
   have hnoB:own6 B=none:=S6.free (cell_lt t0) hnoX
   have a00:=S6.cell u00 (hno (Nat.le_refl _))
   have a01:=S6.cell u01 (hno (Nat.le_refl _))
   have b0:=S6.cell t0 hnoX
   have b1:=S6.cell t1 hnoX
   have b2:=S6.cell t2 hnoX
   have b3:=S6.cell t3 hnoX
   have b4:=S6.cell t4 hnoX
   have HR1:Hid (Lies own6 τ w6 bt g s1∧Step τ own own6 w w6∧Loose own6 w6 146 4 (.slice fa L.length fc) (L.map wtL)∧own6 w.heap.size=none∧own6 B=none):=⟨L6,((uH HS1).trans (Step.of_turn (TX.sT T5 (fun _ _ h=>h)))).trans S6,R6,hno6,hnoB⟩
   clear L6 S6 R6 hno6 hnoB u00 u01 t0 t1 t2 t3 t4 z0 z1 z2 z3 z4 f0 f1 f2 f3 f4 y0_0 y0_1 TX T5 HLX HL5
   have hS9:Hid (∀ (w':World) (o':Own),o' w.heap.size=none→o' B=none→∀ {w2:World} {o2:Own},Step τ o' o2 w' w2→w'.cell? ⟨w.heap.size,0,none⟩=some (.int .i64 (n:Int))→w'.cell? ⟨w.heap.size,1,none⟩=some (.string k)→w'.cell? ⟨B,0,none⟩=some (.int .i64 ver)→w'.cell? ⟨B,1,none⟩=some (.int .i64 pres)→w'.cell? ⟨B,2,none⟩=some (.string val)→w'.cell? ⟨B,3,none⟩=some (.int .i64 base)→w'.cell? ⟨B,4,none⟩=some (.int .i64 since) →
     w2.cell? ⟨w.heap.size,0,none⟩=some (.int .i64 (n:Int))∧w2.cell? ⟨w.heap.size,1,none⟩=some (.string k)∧w2.cell? ⟨B,0,none⟩=some (.int .i64 ver)∧w2.cell? ⟨B,1,none⟩=some (.int .i64 pres)∧w2.cell? ⟨B,2,none⟩=some (.string val)∧w2.cell? ⟨B,3,none⟩=some (.int .i64 base)∧w2.cell? ⟨B,4,none⟩=some (.int .i64 since)):=fun w' o' h1 h2 w2 o2 S a b c d e f i=>⟨S.cell a h1,S.cell b h1,S.cell c h2,S.cell d h2,S.cell e h2,S.cell f h2,S.cell i h2⟩
   go_wp2
   go_loopw [36] (fun i wr=>∃ (j:Nat) (own':Own) (g':Gh),j≤L.length∧i= .int .i64 (j:Int)∧wr.cell? ⟨w.heap.size,0,none⟩=some (.int .i64 (n:Int))∧wr.cell? ⟨w.heap.size,1,none⟩=some (.string k)∧wr.cell? ⟨B,0,none⟩=some (.int .i64 ver)∧wr.cell? ⟨B,1,none⟩=some (.int .i64 pres)∧wr.cell? ⟨B,2,none⟩=some (.string val)∧wr.cell? ⟨B,3,none⟩=some (.int .i64 base)∧wr.cell? ⟨B,4,none⟩=some (.int .i64 since) ∧
     Hid (Lies own' τ wr bt g' (s1.tellL n see (L.take j))∧Step τ own own' w wr∧Loose own' wr 146 4 (.slice fa L.length fc) (L.map wtL)∧own' w.heap.size=none∧own' B=none∧g.Like g')) (fun i _=>L.length - (intOf i).toNat)
   case atStart=>exact ⟨0,own6,g,Nat.zero_le _,by simp,a00,a01,b0,b1,b2,b3,b4,by have h:=uH HR1;exact ⟨by simpa [PS.tellL] using h.1,h.2.1,h.2.2.1,h.2.2.2.1,h.2.2.2.2,Gh.Like.refl g⟩⟩
   case round =>
     obtain ⟨j,own',g',hj,rfl,y0,y1,e0,e1,e2,e3,e4,HR⟩:=hrel
     by_cases hlt:j<L.length
     ·obtain ⟨x,hx⟩:∃ x,L[j]?=some x:=⟨_,List.getElem?_eq_getElem hlt⟩
      obtain ⟨b,rfl,hb,hbo,c0,c1,c2,c3⟩:=(uH HR).2.2.1.cells hx
      have j0:(0:Int)≤(j:Int):=by omega
      have j1:(j:Int)<(L.length:Int):=by omega
      have hbs:w.heap.size<wr.heap.size:=cell_lt y0
      have hBs:B<wr.heap.size:=cell_lt e0
      have hl:=PS.tellL_net n see (L.take j) s1
      have hlt':(L.take j).length=j:=by simp;omega
      have hq:=uH hln1
      have KT:=hide (fun w (h:Lies own' τ w bt g' (s1.tellL n see (L.take j)))=>tell_any own' τ bt g' (s1.tellL n see (L.take j)) n x see w h (by omega) (by omega))
      rw [hsv] at KT
      have KS':=hide (fun w (h:Lies own' τ w bt g' (s1.tellL n see (L.take j)))=>uH KS own' g' _ w ((PS.tellL_c n see (L.take j) s1).1.trans (uH hs1c).1) ((PS.tellL_c n see (L.take j) s1).2.trans (uH hs1c).2) h)
      rw [hsv] at KS'
      simp only [wtV] at KT
      clear hl hlt' hq
      go_wp2
      generalize hV:World.alloc _ _=V
      have TA:Turn nO wr V:=by rw [← hV];exact Turn.alloc _ _ _
      have k0:V.cell? ⟨wr.heap.size,0,none⟩=some (.int .i64 x.child):=by rw [← hV];exact cOf (new1_0 wr _) 0
      have k1:V.cell? ⟨wr.heap.size,1,none⟩=some (.int .i64 x.serial):=by rw [← hV];exact cOf (new1_0 wr _) 1
      have k2:V.cell? ⟨wr.heap.size,2,none⟩=some (.int .i64 x.tag):=by rw [← hV];exact cOf (new1_0 wr _) 2
      have k3:V.cell? ⟨wr.heap.size,3,none⟩=some (.int .i64 x.id):=by rw [← hV];exact cOf (new1_0 wr _) 3
      have m0:=TA.cell y0 id
      have m1:=TA.cell y1 id
      have n0:=TA.cell e0 id
      have n1:=TA.cell e1 id
      have n2:=TA.cell e2 id
      have n3:=TA.cell e3 id
      have n4:=TA.cell e4 id
      clear hV
      have hnm:∀ {b:Nat},own' b=none→¬ Mine own' τ b:=fun hb ⟨y,hy⟩=>by rw [hb] at hy;cases hy
      have hoA:=(uH HR).2.2.2.1
      have hoB:=(uH HR).2.2.2.2.1
      have hoW:own' wr.heap.size=none:=(uH HR).1.top _ (Nat.le_refl _)
      have HLV:=hide ((uH HR).1.turn TA)
      have HS:∀ w',Turn (Mine own' τ) V w'→Turn (Mine own' τ) V w'∧w'.cell? ⟨w.heap.size,0,none⟩=some (.int .i64 (n:Int))∧w'.cell? ⟨w.heap.size,1,none⟩=some (.string k)∧w'.cell? ⟨wr.heap.size,0,none⟩=some (.int .i64 x.child)∧w'.cell? ⟨wr.heap.size,1,none⟩=some (.int .i64 x.serial)∧w'.cell? ⟨wr.heap.size,2,none⟩=some (.int .i64 x.tag)∧w'.cell? ⟨wr.heap.size,3,none⟩=some (.int .i64 x.id)∧w'.cell? ⟨B,0,none⟩=some (.int .i64 ver)∧w'.cell? ⟨B,1,none⟩=some (.int .i64 pres)∧w'.cell? ⟨B,2,none⟩=some (.string val)∧w'.cell? ⟨B,3,none⟩=some (.int .i64 base)∧w'.cell? ⟨B,4,none⟩=some (.int .i64 since) :=
        fun w' T=>⟨T,T.cell m0 (hnm hoA),T.cell m1 (hnm hoA),T.cell k0 (hnm hoW),T.cell k1 (hnm hoW),T.cell k2 (hnm hoW),T.cell k3 (hnm hoW),T.cell n0 (hnm hoB),T.cell n1 (hnm hoB),T.cell n2 (hnm hoB),T.cell n3 (hnm hoB),T.cell n4 (hnm hoB)⟩
      go_region_held3 (fun w'=>Turn (Mine own' τ) V w'∧w'.cell? ⟨w.heap.size,0,none⟩=some (.int .i64 (n:Int))∧w'.cell? ⟨w.heap.size,1,none⟩=some (.string k)∧w'.cell? ⟨wr.heap.size,0,none⟩=some (.int .i64 x.child)∧w'.cell? ⟨wr.heap.size,1,none⟩=some (.int .i64 x.serial)∧w'.cell? ⟨wr.heap.size,2,none⟩=some (.int .i64 x.tag)∧w'.cell? ⟨wr.heap.size,3,none⟩=some (.int .i64 x.id)∧w'.cell? ⟨B,0,none⟩=some (.int .i64 ver)∧w'.cell? ⟨B,1,none⟩=some (.int .i64 pres)∧w'.cell? ⟨B,2,none⟩=some (.string val)∧w'.cell? ⟨B,3,none⟩=some (.int .i64 base)∧w'.cell? ⟨B,4,none⟩=some (.int .i64 since))
        ((go_split_ands;apply HS;first|exact TF|(repeat (first|(with_reducible first|assumption|exact Turn.refl _ _|apply Turn.sA|apply Turn.sD|refine tN ?_ (by assumption))|((with_reducible refine Turn.sS ?_ ?_);rotate_left;· first|exact Or.inr rfl|exact Or.inr (Or.inl rfl)|exact Or.inl (by simp <;> omega))|(with_reducible refine tG ?_ (by assumption))|(with_reducible first|apply There.drew|apply There.set|refine hNo ?_ (by assumption))|assumption))))
        (first
          | (go_at_call 66;go_split_ands;refine (uH KS' _ ((uH HLV).turn (Turn.drew _ _))).mono ?_;rintro e w7 ⟨rfl,T7⟩)
          | (go_at_call 105;go_split_ands;refine (uH KT _ (((uH HLV).turn (Turn.drew _ _)).turn T7)).mono ?_;rintro e w8 ⟨rfl,own8,g8,L8,S8,GL8⟩;have TF:Turn (Mine own' τ) V w8:=((Turn.drew _ _).sT (N:=nO) T7 (fun _ _ h=>False.elim h)).sT S8.turn (fun _ _ h=>h)))
      go_split_ands
      have SA:Step τ own' own8 wr w8:=(Step.of_turn ((TA.sD).sT T7 (fun _ _ h=>h))).trans S8
      obtain ⟨i0,i1,i2,i3,i4,i5,i6⟩:=uH hS9 wr own' hoA hoB SA y0 y1 e0 e1 e2 e3 e4
      have HR2:Hid (Lies own8 τ w8 bt g8 (s1.tellL n see (L.take (j+1)))∧Step τ own own8 w w8∧Loose own8 w8 146 4 (.slice (some ⟨b,0,none⟩) L.length fc) (L.map wtL)∧own8 w.heap.size=none∧own8 B=none∧g.Like g8):=by
        refine ⟨?_,(uH HR).2.1.trans SA,(uH HR).2.2.1.step SA,SA.free hbs hoA,SA.free hBs hoB,(uH HR).2.2.2.2.2.trans GL8⟩
        rw [PS.tellL_snoc s1 n see L j x hx];exact L8
      clear L8 S8 SA TA HR GL8 HR1 HS TF HLV m0 m1 n0 n1 n2 n3 n4 k0 k1 k2 k3 y0 y1 e0 e1 e2 e3 e4 c0 c1 c2 c3
      go_wp2
      go_roundw
      case rel=>exact ⟨j+1,own8,g8,by omega,by go_num,i0,i1,i2,i3,i4,i5,i6,HR2⟩
      case measure=>simp [intOf];omega
     ·go_wp2
      go_end0
      have e:j=L.length:=by omega
      subst e
      rw [List.take_length] at HR
      exact ⟨rfl,own',g',(uH HR).1,(uH HR).2.1,(uH HR).2.2.2.2.2⟩)
theorem answered_none (own:Own) (τ bt:Nat) (g:Gh) (s:PS) (m:Mes) (n:Nat) (w:World) (h:Lies own τ w bt g s) (hto:m.to=(n:Int)) (hn:n<6) (h2:m.key.size≤100) (hft:aget s.fts (n,m.key)=none) :
    Calls Tryz.prog 111 #[.pointer (some ⟨bt,0,none⟩),mesV m] w fun r w'=>r= .returned (.tuple #[])∧Lies own τ w' bt g s∧Step τ own own w w':=by
 have HH:=hide h
 have htop:Hid (∀ k',w.heap.size≤k'→own k'=none):=h.top
 have d13:w.cell? ⟨bt,13,none⟩=some (.map (some g.bq)):=cOf h.tier.block 13
 have hbq:g.bq<w.heap.size:=h.fts.lt
 have HK:Hid (∀ w':World,w'.heap[g.bq]?=w.heap[g.bq]?→(Instr.lookup 74 (.map (some g.bq)) (.agg #[.int .i64 (n:Int),.string m.key]) true).run Tryz.prog w'= .ok (.tuple #[.agg #[.int .i64 0,.int .i64 0,.slice none 0 0],.bool false]) w'):=fun w' e=>by
   have:=ft_look (h.fts.heap e) (by omega:n<1000) h2
   rw [hft] at this
   exact this
 clear h hft
 obtain ⟨kind,frm,tto,key,serial,ver,age,pres,val⟩:=m
 dsimp only at *
 subst hto
 simp only [mesV,mesL] at ⊢
 go_enter Tryz.func111,Tryz.ntmps111
 go_wp2
 generalize hW:World.alloc _ _=W0
 have T0:Turn nO w W0:=by rw [← hW];exact (Turn.alloc _ _ _).sA
 have hsz:W0.heap.size=w.heap.size+1+1:=by rw [← hW];simp
 have x0:∃ ty,W0.heap[w.heap.size]?=some (.cells #[.int .i64 kind,.int .i64 frm,.int .i64 (n:Int),.string key,.int .i64 serial,.int .i64 ver,.int .i64 age,.int .i64 pres,.string val] ty (0,0)):=by rw [← hW];exact ⟨_,new2_0 _ _ _⟩
 obtain ⟨x0_0,x0_1,x0_2,x0_3,x0_4,x0_5,x0_6,x0_7,x0_8⟩:=eC9 x0
 have x1:∃ ty,W0.heap[w.heap.size+1]?=some (.cells #[.int .i64 (n:Int),.string key] ty (0,0)):=by rw [← hW];exact ⟨_,new2_1 _ _ _⟩
 obtain ⟨x1_0,x1_1⟩:=eC2 x1
 have c13:=T0.cell d13 id
 have HL:=hide ((uH HH).turn T0)
 clear hW d13
 have HS:=fun w' (T:Turn nO W0 w')=>And.intro T (And.intro (T.cell c13 id) (And.intro (T.cell x1_0 id) (And.intro (T.cell x1_1 id) ((show (Instr.lookup 74 (.map (some g.bq)) (.agg #[.int .i64 (n:Int),.string key]) true).run Tryz.prog w'= .ok (.tuple #[.agg #[.int .i64 0,.int .i64 0,.slice none 0 0],.bool false]) w' from (uH HK _ ((T.block _ (by omega) id).trans (T0.block _ hbq id))))))))
 go_region_held3 (fun w'=>Turn nO W0 w'∧w'.cell? ⟨bt,13,none⟩=some (.map (some g.bq))∧w'.cell? ⟨w.heap.size+1,0,none⟩=some (.int .i64 (n:Int))∧w'.cell? ⟨w.heap.size+1,1,none⟩=some (.string key)∧((Instr.lookup 74 (.map (some g.bq)) (.agg #[.int .i64 (n:Int),.string key]) true).run Tryz.prog w'= .ok (.tuple #[.agg #[.int .i64 0,.int .i64 0,.slice none 0 0],.bool false]) w')) ((go_split_ands;apply HS;all_goals (repeat (first|(with_reducible first|assumption|exact Turn.refl _ _|apply Turn.sA|apply Turn.sD|refine tN ?_ (by assumption))|((with_reducible refine Turn.sS ?_ ?_);rotate_left;· first|exact Or.inr rfl|exact Or.inr (Or.inl rfl)|exact Or.inl (by simp <;> omega))|(with_reducible refine tG ?_ (by assumption))|(with_reducible first|apply There.drew|apply There.set|refine hNo ?_ (by assumption))|assumption)))) (fail)
 all_goals go_split_ands
 all_goals clear HS
 all_goals (
   generalize hV:World.drew _=V
   have TV:Turn nO W0 V:=by rw [← hV];exact (Turn.alloc _ _ _).sD
   have hvb:V.heap[w.heap.size+1+1]?=some (.cells #[.int .i64 0,.int .i64 0,.slice none 0 0] 154 (0,0)):=by rw [← hV,← hsz];exact new1_0 W0 _
   clear hV
   have v0:=cOf hvb 0
   have v1:=cOf hvb 1
   have v2:=cOf hvb 2
   have HLV:=hide ((uH HL).turn TV)
   have y0_0:=TV.cell x0_0 id
   have y0_1:=TV.cell x0_1 id
   have y0_2:=TV.cell x0_2 id
   have y0_3:=TV.cell x0_3 id
   have y0_4:=TV.cell x0_4 id
   have y0_5:=TV.cell x0_5 id
   have y0_6:=TV.cell x0_6 id
   have y0_7:=TV.cell x0_7 id
   have y0_8:=TV.cell x0_8 id
   have y1_0:=TV.cell x1_0 id
   have y1_1:=TV.cell x1_1 id
   have HE:=hide (And.intro (uH HLV) (Step.of_turn (τ:=τ) (own:=own) (T0.sT TV (fun _ _ h=>h))))
   go_wp2
   exact bodyPost_ret (v:= .tuple #[]) (by simp [results,Tryz.results111,go_sem]) rfl ⟨rfl,(uH HE).1,(uH HE).2⟩)
theorem answered_other (own:Own) (τ bt:Nat) (g:Gh) (s:PS) (m:Mes) (n:Nat) (w:World) (h:Lies own τ w bt g s) (hto:m.to=(n:Int)) (hn:n<6) (h2:m.key.size≤100) (f:Ft) (hft:aget s.fts (n,m.key)=some f) (hse:¬ f.serial=m.serial) :
    Calls Tryz.prog 111 #[.pointer (some ⟨bt,0,none⟩),mesV m] w fun r w'=>r= .returned (.tuple #[])∧Lies own τ w' bt g s∧Step τ own own w w':=by
 obtain ⟨fa,fc,hfv⟩:=row_form (h.waits _ (aget_mem hft)).row
 obtain ⟨fser,fsent,fl,fv⟩:=f
 dsimp only at hfv hse ⊢
 generalize hfn:(fl.map wtL).length=fn at hfv
 subst hfv
 have HH:=hide h
 have htop:Hid (∀ k',w.heap.size≤k'→own k'=none):=h.top
 have d13:w.cell? ⟨bt,13,none⟩=some (.map (some g.bq)):=cOf h.tier.block 13
 have hbq:g.bq<w.heap.size:=h.fts.lt
 have HK:Hid (∀ w':World,w'.heap[g.bq]?=w.heap[g.bq]?→(Instr.lookup 74 (.map (some g.bq)) (.agg #[.int .i64 (n:Int),.string m.key]) true).run Tryz.prog w'= .ok (.tuple #[.agg #[.int .i64 fser,.int .i64 fsent,.slice fa fn fc],.bool true]) w'):=fun w' e=>by
   have:=ft_look (h.fts.heap e) (by omega:n<1000) h2
   rw [hft] at this
   exact this
 clear h hft
 obtain ⟨kind,frm,tto,key,serial,ver,age,pres,val⟩:=m
 dsimp only at *
 subst hto
 simp only [mesV,mesL] at ⊢
 go_enter Tryz.func111,Tryz.ntmps111
 go_wp2
 generalize hW:World.alloc _ _=W0
 have T0:Turn nO w W0:=by rw [← hW];exact (Turn.alloc _ _ _).sA
 have hsz:W0.heap.size=w.heap.size+1+1:=by rw [← hW];simp
 have x0:∃ ty,W0.heap[w.heap.size]?=some (.cells #[.int .i64 kind,.int .i64 frm,.int .i64 (n:Int),.string key,.int .i64 serial,.int .i64 ver,.int .i64 age,.int .i64 pres,.string val] ty (0,0)):=by rw [← hW];exact ⟨_,new2_0 _ _ _⟩
 obtain ⟨x0_0,x0_1,x0_2,x0_3,x0_4,x0_5,x0_6,x0_7,x0_8⟩:=eC9 x0
 have x1:∃ ty,W0.heap[w.heap.size+1]?=some (.cells #[.int .i64 (n:Int),.string key] ty (0,0)):=by rw [← hW];exact ⟨_,new2_1 _ _ _⟩
 obtain ⟨x1_0,x1_1⟩:=eC2 x1
 have c13:=T0.cell d13 id
 have HL:=hide ((uH HH).turn T0)
 clear hW d13
 have HS:=fun w' (T:Turn nO W0 w')=>And.intro T (And.intro (T.cell c13 id) (And.intro (T.cell x1_0 id) (And.intro (T.cell x1_1 id) ((show (Instr.lookup 74 (.map (some g.bq)) (.agg #[.int .i64 (n:Int),.string key]) true).run Tryz.prog w'= .ok (.tuple #[.agg #[.int .i64 fser,.int .i64 fsent,.slice fa fn fc],.bool true]) w' from (uH HK _ ((T.block _ (by omega) id).trans (T0.block _ hbq id))))))))
 go_region_held3 (fun w'=>Turn nO W0 w'∧w'.cell? ⟨bt,13,none⟩=some (.map (some g.bq))∧w'.cell? ⟨w.heap.size+1,0,none⟩=some (.int .i64 (n:Int))∧w'.cell? ⟨w.heap.size+1,1,none⟩=some (.string key)∧((Instr.lookup 74 (.map (some g.bq)) (.agg #[.int .i64 (n:Int),.string key]) true).run Tryz.prog w'= .ok (.tuple #[.agg #[.int .i64 fser,.int .i64 fsent,.slice fa fn fc],.bool true]) w')) ((go_split_ands;apply HS;all_goals (repeat (first|(with_reducible first|assumption|exact Turn.refl _ _|apply Turn.sA|apply Turn.sD|refine tN ?_ (by assumption))|((with_reducible refine Turn.sS ?_ ?_);rotate_left;· first|exact Or.inr rfl|exact Or.inr (Or.inl rfl)|exact Or.inl (by simp <;> omega))|(with_reducible refine tG ?_ (by assumption))|(with_reducible first|apply There.drew|apply There.set|refine hNo ?_ (by assumption))|assumption)))) (fail)
 all_goals go_split_ands
 all_goals clear HS
 all_goals (
   generalize hV:World.drew _=V
   have TV:Turn nO W0 V:=by rw [← hV];exact (Turn.alloc _ _ _).sD
   have hvb:V.heap[w.heap.size+1+1]?=some (.cells #[.int .i64 fser,.int .i64 fsent,.slice fa fn fc] 154 (0,0)):=by rw [← hV,← hsz];exact new1_0 W0 _
   clear hV
   have v0:=cOf hvb 0
   have v1:=cOf hvb 1
   have v2:=cOf hvb 2
   have HLV:=hide ((uH HL).turn TV)
   have y0_0:=TV.cell x0_0 id
   have y0_1:=TV.cell x0_1 id
   have y0_2:=TV.cell x0_2 id
   have y0_3:=TV.cell x0_3 id
   have y0_4:=TV.cell x0_4 id
   have y0_5:=TV.cell x0_5 id
   have y0_6:=TV.cell x0_6 id
   have y0_7:=TV.cell x0_7 id
   have y0_8:=TV.cell x0_8 id
   have y1_0:=TV.cell x1_0 id
   have y1_1:=TV.cell x1_1 id
   have HE:=hide (And.intro (uH HLV) (Step.of_turn (τ:=τ) (own:=own) (T0.sT TV (fun _ _ h=>h))))
   go_wp2
   exact bodyPost_ret (v:= .tuple #[]) (by simp [results,Tryz.results111,go_sem]) rfl ⟨rfl,(uH HE).1,(uH HE).2⟩)
theorem answered_refuse (own:Own) (τ bt:Nat) (g:Gh) (s:PS) (m:Mes) (n:Nat) (w:World) (h:Lies own τ w bt g s) (hto:m.to=(n:Int)) (hn:n<6) (h2:m.key.size≤100) (f:Ft) (hf:s.Fine) (hft:aget s.fts (n,m.key)=some f) (hse:f.serial=m.serial) (hkd:m.kind=4) (hl1:s.net.length+f.l.length<1000000000000) (hl2:s.answers.length+f.l.length<1000000000000) :
    Calls Tryz.prog 111 #[.pointer (some ⟨bt,0,none⟩),mesV m] w fun r w'=>r= .returned (.tuple #[])∧∃ own' g',Lies own' τ w' bt g' ((s.over n m.key).refuseL n m.key f.l)∧Step τ own own' w w'∧g.Like g':=by
 have KR:=hide (fun w (h:Lies own τ w bt g s)=>refuseAll_any own τ bt g s n m.key f w h hf.apart (fun p hp=>(hf.fts p hp).2.2.1) hft (by omega) h2 hl1 hl2)
 obtain ⟨fa,fc,hfv⟩:=row_form (h.waits _ (aget_mem hft)).row
 obtain ⟨fser,fsent,fl,fv⟩:=f
 dsimp only at hfv hse KR ⊢
 generalize hfn:(fl.map wtL).length=fn at hfv
 subst hfv
 have HH:=hide h
 have htop:Hid (∀ k',w.heap.size≤k'→own k'=none):=h.top
 have d13:w.cell? ⟨bt,13,none⟩=some (.map (some g.bq)):=cOf h.tier.block 13
 have hbq:g.bq<w.heap.size:=h.fts.lt
 have HK:Hid (∀ w':World,w'.heap[g.bq]?=w.heap[g.bq]?→(Instr.lookup 74 (.map (some g.bq)) (.agg #[.int .i64 (n:Int),.string m.key]) true).run Tryz.prog w'= .ok (.tuple #[.agg #[.int .i64 fser,.int .i64 fsent,.slice fa fn fc],.bool true]) w'):=fun w' e=>by
   have:=ft_look (h.fts.heap e) (by omega:n<1000) h2
   rw [hft] at this
   exact this
 clear h hft hf hl1 hl2
 obtain ⟨kind,frm,tto,key,serial,ver,age,pres,val⟩:=m
 dsimp only at *
 subst hto
 subst hse hkd
 simp only [mesV,mesL,placeV] at KR ⊢
 go_enter Tryz.func111,Tryz.ntmps111
 go_wp2
 generalize hW:World.alloc _ _=W0
 have T0:Turn nO w W0:=by rw [← hW];exact (Turn.alloc _ _ _).sA
 have hsz:W0.heap.size=w.heap.size+1+1:=by rw [← hW];simp
 have x0:∃ ty,W0.heap[w.heap.size]?=some (.cells #[.int .i64 4,.int .i64 frm,.int .i64 (n:Int),.string key,.int .i64 fser,.int .i64 ver,.int .i64 age,.int .i64 pres,.string val] ty (0,0)):=by rw [← hW];exact ⟨_,new2_0 _ _ _⟩
 obtain ⟨x0_0,x0_1,x0_2,x0_3,x0_4,x0_5,x0_6,x0_7,x0_8⟩:=eC9 x0
 have x1:∃ ty,W0.heap[w.heap.size+1]?=some (.cells #[.int .i64 (n:Int),.string key] ty (0,0)):=by rw [← hW];exact ⟨_,new2_1 _ _ _⟩
 obtain ⟨x1_0,x1_1⟩:=eC2 x1
 have c13:=T0.cell d13 id
 have HL:=hide ((uH HH).turn T0)
 clear hW d13
 have HS:=fun w' (T:Turn nO W0 w')=>And.intro T (And.intro (T.cell c13 id) (And.intro (T.cell x1_0 id) (And.intro (T.cell x1_1 id) ((show (Instr.lookup 74 (.map (some g.bq)) (.agg #[.int .i64 (n:Int),.string key]) true).run Tryz.prog w'= .ok (.tuple #[.agg #[.int .i64 fser,.int .i64 fsent,.slice fa fn fc],.bool true]) w' from (uH HK _ ((T.block _ (by omega) id).trans (T0.block _ hbq id))))))))
 go_region_held3 (fun w'=>Turn nO W0 w'∧w'.cell? ⟨bt,13,none⟩=some (.map (some g.bq))∧w'.cell? ⟨w.heap.size+1,0,none⟩=some (.int .i64 (n:Int))∧w'.cell? ⟨w.heap.size+1,1,none⟩=some (.string key)∧((Instr.lookup 74 (.map (some g.bq)) (.agg #[.int .i64 (n:Int),.string key]) true).run Tryz.prog w'= .ok (.tuple #[.agg #[.int .i64 fser,.int .i64 fsent,.slice fa fn fc],.bool true]) w')) ((go_split_ands;apply HS;all_goals (repeat (first|(with_reducible first|assumption|exact Turn.refl _ _|apply Turn.sA|apply Turn.sD|refine tN ?_ (by assumption))|((with_reducible refine Turn.sS ?_ ?_);rotate_left;· first|exact Or.inr rfl|exact Or.inr (Or.inl rfl)|exact Or.inl (by simp <;> omega))|(with_reducible refine tG ?_ (by assumption))|(with_reducible first|apply There.drew|apply There.set|refine hNo ?_ (by assumption))|assumption)))) (fail)
 all_goals go_split_ands
 all_goals clear HS
 all_goals (
   generalize hV:World.drew _=V
   have TV:Turn nO W0 V:=by rw [← hV];exact (Turn.alloc _ _ _).sD
   have hvb:V.heap[w.heap.size+1+1]?=some (.cells #[.int .i64 fser,.int .i64 fsent,.slice fa fn fc] 154 (0,0)):=by rw [← hV,← hsz];exact new1_0 W0 _
   clear hV
   have v0:=cOf hvb 0
   have v1:=cOf hvb 1
   have v2:=cOf hvb 2
   have HLV:=hide ((uH HL).turn TV)
   have y0_0:=TV.cell x0_0 id
   have y0_1:=TV.cell x0_1 id
   have y0_2:=TV.cell x0_2 id
   have y0_3:=TV.cell x0_3 id
   have y0_4:=TV.cell x0_4 id
   have y0_5:=TV.cell x0_5 id
   have y0_6:=TV.cell x0_6 id
   have y0_7:=TV.cell x0_7 id
   have y0_8:=TV.cell x0_8 id
   have y1_0:=TV.cell x1_0 id
   have y1_1:=TV.cell x1_1 id
   go_wp2_with fail
   refine (uH KR _ (uH HLV)).mono ?_
   rintro e w4 ⟨rfl,own4,g4,L4,S4,GL4⟩
   have HE:=hide (And.intro L4 (And.intro ((Step.of_turn (T0.sT TV (fun _ _ h=>h))).trans S4) GL4))
   clear L4 S4 GL4
   go_wp2
   go_end0
   exact ⟨rfl,own4,g4,(uH HE).1,(uH HE).2.1,(uH HE).2.2⟩)
end
end Go.Proofs.YtpdkojgepagbnaaGreatDoor
