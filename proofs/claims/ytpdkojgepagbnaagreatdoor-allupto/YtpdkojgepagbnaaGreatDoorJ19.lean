/-
  An answer comes: a Same of what is there no more.
  An answer is learnt: a new entry.
  An answer is learnt: of a greater version.
  An answer is learnt: of the same version, and younger.
-/
import Derived.Test.YtpdkojgepagbnaaGreatDoorJ18
import Derived.Test.YtpdkojgepagbnaaGreatDoorJ16
namespace Go.Proofs.YtpdkojgepagbnaaGreatDoor
set_option maxRecDepth 100000
set_option maxHeartbeats 8000000
section
open Go.RowKit
open Tier (Mes Ans Conf)
attribute [local go_sem ↓] Go.wp_at_zero Go.wp_at_succ
theorem answered_again (own:Own) (τ bt:Nat) (g:Gh) (s:PS) (m:Mes) (n:Nat) (w:World) (h:Lies own τ w bt g s) (hto:m.to=(n:Int)) (hn:n<6) (h2:m.key.size≤100) (f:Ft) (hf:s.Fine) (hft:aget s.fts (n,m.key)=some f) (hse:f.serial=m.serial) (hkd:m.kind=3) (htg:¬ s.tag n m.key=m.ver) (hser:s.serial<1000000000000) (hl1:s.net.length<1000000000000) (hpar:n<s.c.parents.length) :
    Calls Tryz.prog 111 #[.pointer (some ⟨bt,0,none⟩),mesV m] w fun r w'=>r= .returned (.tuple #[])∧∃ own' g',Lies own' τ w' bt g' (s.fetch n m.key (-1) f.l f.v)∧Step τ own own' w w'∧g.Like g':=by
 have KT:=hide (fun w (h:Hid (Lies own τ w bt g s))=>tag_any own τ bt g s n m.key w h (by omega) h2)
 have KF:=hide (fun w (h:Lies own τ w bt g s)=>fetch_again own τ bt g s n m.key (-1) f w h hn h2 ⟨hf.small.1,hser⟩ hf.few.2 hl1 hpar hft hf.apart (fun p hp=>⟨(hf.fts p hp).2.2.1,(hf.fts p hp).2.2.2.1⟩))
 generalize s.tag n m.key=tg at *
 obtain ⟨fa,fc,hfv⟩:=row_form (h.waits _ (aget_mem hft)).row
 obtain ⟨fser,fsent,fl,fv⟩:=f
 dsimp only at hfv hse KF ⊢
 generalize hfn:(fl.map wtL).length=fn at hfv
 subst hfv
 have HH:=hide h
 have htop:Hid (∀ k',w.heap.size≤k'→own k'=none):=h.top
 have d13:w.cell? ⟨bt,13,none⟩=some (.map (some g.bq)):=cOf h.tier.block 13
 have hbq:g.bq<w.heap.size:=h.fts.lt
 have HK:Hid (∀ w':World,w'.heap[g.bq]?=w.heap[g.bq]?→(Instr.lookup 74 (.map (some g.bq)) (.agg #[.int .i64 (n:Int),.string m.key]) true).run Tryz.prog w'= .ok (.tuple #[.agg #[.int .i64 fser,.int .i64 fsent,.slice fa fn fc],.bool true]) w'):=fun w' e=>by
   have:=ft_look (h.fts.heap e) (by omega:n<1000) h2
   rw [hft] at this
   exact this
 clear h hft hf hser hl1 hpar
 obtain ⟨kind,frm,tto,key,serial,ver,age,pres,val⟩:=m
 dsimp only at *
 subst hto
 subst hse hkd
 simp only [mesV,mesL,placeV] at KT KF ⊢
 go_enter Tryz.func111,Tryz.ntmps111
 go_wp2
 generalize hW:World.alloc _ _=W0
 have T0:Turn nO w W0:=by rw [← hW];exact (Turn.alloc _ _ _).sA
 have hsz:W0.heap.size=w.heap.size+1+1:=by rw [← hW];simp
 have x0:∃ ty,W0.heap[w.heap.size]?=some (.cells #[.int .i64 3,.int .i64 frm,.int .i64 (n:Int),.string key,.int .i64 fser,.int .i64 ver,.int .i64 age,.int .i64 pres,.string val] ty (0,0)):=by rw [← hW];exact ⟨_,new2_0 _ _ _⟩
 obtain ⟨x0_0,x0_1,x0_2,x0_3,x0_4,x0_5,x0_6,x0_7,x0_8⟩:=eC9 x0
 have x1:∃ ty,W0.heap[w.heap.size+1]?=some (.cells #[.int .i64 (n:Int),.string key] ty (0,0)):=by rw [← hW];exact ⟨_,new2_1 _ _ _⟩
 obtain ⟨x1_0,x1_1⟩:=eC2 x1
 have c13:=T0.cell d13 id
 have HL:=hide ((uH HH).turn T0)
 clear hW d13
 have HS:=fun w' (T:Turn nO W0 w')=>And.intro T (And.intro (T.cell c13 id) (And.intro (T.cell x1_0 id) (And.intro (T.cell x1_1 id) ((show (Instr.lookup 74 (.map (some g.bq)) (.agg #[.int .i64 (n:Int),.string key]) true).run Tryz.prog w'= .ok (.tuple #[.agg #[.int .i64 fser,.int .i64 fsent,.slice fa fn fc],.bool true]) w' from (uH HK _ ((T.block _ (by omega) id).trans (T0.block _ hbq id))))))))
 go_region_held3 (fun w'=>Turn nO W0 w'∧w'.cell? ⟨bt,13,none⟩=some (.map (some g.bq))∧w'.cell? ⟨w.heap.size+1,0,none⟩=some (.int .i64 (n:Int))∧w'.cell? ⟨w.heap.size+1,1,none⟩=some (.string key)∧((Instr.lookup 74 (.map (some g.bq)) (.agg #[.int .i64 (n:Int),.string key]) true).run Tryz.prog w'= .ok (.tuple #[.agg #[.int .i64 fser,.int .i64 fsent,.slice fa fn fc],.bool true]) w')) ((go_split_ands;apply HS;all_goals (repeat (first|(with_reducible first|assumption|exact Turn.refl _ _|apply Turn.sA|apply Turn.sD|refine tN ?_ (by assumption))|((with_reducible refine Turn.sS ?_ ?_);rotate_left;· first|exact Or.inr rfl|exact Or.inr (Or.inl rfl)|exact Or.inl (by simp <;> omega))|(with_reducible refine tG ?_ (by assumption))|(with_reducible first|apply There.drew|apply There.set|refine hNo ?_ (by assumption))|assumption)))) (fail)
 all_goals go_split_ands
 all_goals clear HS
 all_goals (
   generalize hV:World.drew _=V
   have TV:Turn nO W0 V:=by rw [← hV];exact (Turn.alloc _ _ _).sD
   have hvb:V.heap[w.heap.size+1+1]?=some (.cells #[.int .i64 fser,.int .i64 fsent,.slice fa fn fc] 154 (0,0)):=by rw [← hV,← hsz];exact new1_0 W0 _
   clear hV
   have v0:=cOf hvb 0
   have v1:=cOf hvb 1
   have v2:=cOf hvb 2
   have HLV:=hide ((uH HL).turn TV)
   have y0_0:=TV.cell x0_0 id
   have y0_1:=TV.cell x0_1 id
   have y0_2:=TV.cell x0_2 id
   have y0_3:=TV.cell x0_3 id
   have y0_4:=TV.cell x0_4 id
   have y0_5:=TV.cell x0_5 id
   have y0_6:=TV.cell x0_6 id
   have y0_7:=TV.cell x0_7 id
   have y0_8:=TV.cell x0_8 id
   have y1_0:=TV.cell x1_0 id
   have y1_1:=TV.cell x1_1 id
   go_wp2
   have HS:=fun w' (T:Turn nO V w')=>And.intro T (And.intro (T.cell y0_0 id) (And.intro (T.cell y0_5 id) (And.intro (T.cell y1_0 id) (And.intro (T.cell y1_1 id) ((show Hid (Lies own τ w' bt g s) from ((uH HLV).turn T)))))))
   go_region_held3 (fun w'=>Turn nO V w'∧w'.cell? ⟨w.heap.size,0,none⟩=some (.int .i64 3)∧w'.cell? ⟨w.heap.size,5,none⟩=some (.int .i64 ver)∧w'.cell? ⟨w.heap.size+1,0,none⟩=some (.int .i64 (n:Int))∧w'.cell? ⟨w.heap.size+1,1,none⟩=some (.string key)∧(Hid (Lies own τ w' bt g s))) ((go_split_ands;apply HS;all_goals (repeat (first|(with_reducible first|assumption|exact Turn.refl _ _|apply Turn.sA|apply Turn.sD|refine tN ?_ (by assumption))|((with_reducible refine Turn.sS ?_ ?_);rotate_left;· first|exact Or.inr rfl|exact Or.inr (Or.inl rfl)|exact Or.inl (by simp <;> omega))|(with_reducible refine tG ?_ (by assumption))|(with_reducible first|apply There.drew|apply There.set|refine hNo ?_ (by assumption))|assumption)))) (first|(go_at_call 124;go_split_ands;refine (uH KT _ (by assumption)).mono ?_;rintro e w4 ⟨rfl,T4⟩))
   go_split_ands
   clear HS
   have TV4:Turn nO V w4:=by assumption
   have u2:=TV4.cell v2 id
   have u00:=TV4.cell y1_0 id
   have u01:=TV4.cell y1_1 id
   have HL4:=hide ((uH HLV).turn TV4)
   go_wp2_with fail
   refine (uH KF _ (uH HL4)).mono ?_
   rintro e w5 ⟨rfl,own5,g5,L5,S5,GL5⟩
   have HE:=hide (And.intro L5 (And.intro ((Step.of_turn ((T0.sT TV (fun _ _ h=>h)).sT TV4 (fun _ _ h=>h))).trans S5) GL5))
   clear L5 S5 GL5
   go_wp2
   go_end0
   exact ⟨rfl,own5,g5,(uH HE).1,(uH HE).2.1,(uH HE).2.2⟩)
theorem learn_none (own:Own) (τ bt:Nat) (g:Gh) (s:PS) (n:Nat) (m:Mes) (base:Int) (w:World) (h:Lies own τ w bt g s) (hf:s.Fine) (hn:n<6) (h2:m.key.size≤100) (hen:0<s.c.entries) (hul:(s.used n).length≤999) (hks:∀ k∈s.used n,k.size≤100) (he:s.entry n m.key=none) :
    Calls Tryz.prog 126 #[.pointer (some ⟨bt,0,none⟩),placeV (n,m.key),mesV m,.int .i64 base] w fun r w'=>r= .returned (.tuple #[])∧∃ own' g',Lies own' τ w' bt g' (s.store n m.key ⟨m.ver,m.pres,m.val,base,s.clk n⟩)∧Step τ own own' w w'∧g.Like g':=by
 have HH:=hide h
 have d12:w.cell? ⟨bt,12,none⟩=some (.pointer (some ⟨g.be,0,none⟩)):=cOf h.tier.block 12
 have d6:w.cell? ⟨bt,6+n,none⟩=some (.int .i64 (s.clk n)):=h.tier.clk hn
 have KA:=hide (fun w (h:Hid (Lies own τ w bt g s))=>At_lies n m.key w h (by omega) h2)
 have KS:=hide (fun w (h:Lies own τ w bt g s)=>Store_any own τ bt g s n m.key ⟨m.ver,m.pres,m.val,base,s.clk n⟩ w h hf hn h2 hen hul hks)
 rw [he] at KA
 clear h hf he hen hul hks
 have i0:(0:Int)≤(n:Int):=by omega
 have i1:(n:Int)<6:=by omega
 generalize s.clk n=ck at *
 obtain ⟨kind,frm,tto,key,serial,ver,age,pres,val⟩:=m
 simp only [mesV,mesL,entV,placeV,noEnt,Option.getD,Option.isSome] at KA KS ⊢
 go_enter Tryz.func126,Tryz.ntmps126
 go_wp2
 generalize hW:World.alloc _ _=W0
 have T0:Turn nO w W0:=by rw [← hW];exact (Turn.alloc _ _ _).sA
 have hsz:W0.heap.size=w.heap.size+1+1:=by rw [← hW];simp
 have x0:∃ ty,W0.heap[w.heap.size]?=some (.cells #[.int .i64 (n:Int),.string key] ty (0,0)):=by rw [← hW];exact ⟨_,new2_0 _ _ _⟩
 obtain ⟨x0_0,x0_1⟩:=eC2 x0
 have x1:∃ ty,W0.heap[w.heap.size+1]?=some (.cells #[.int .i64 kind,.int .i64 frm,.int .i64 tto,.string key,.int .i64 serial,.int .i64 ver,.int .i64 age,.int .i64 pres,.string val] ty (0,0)):=by rw [← hW];exact ⟨_,new2_1 _ _ _⟩
 obtain ⟨x1_0,x1_1,x1_2,x1_3,x1_4,x1_5,x1_6,x1_7,x1_8⟩:=eC9 x1
 have c12:=T0.cell d12 id
 have c6:=T0.cell d6 id
 have HL:=hide ((uH HH).turn T0)
 clear hW d12 d6
 have HS:=fun w' (T:Turn nO W0 w')=>And.intro T (And.intro (T.cell c12 id) (And.intro (T.cell x0_0 id) (And.intro (T.cell x0_1 id) ((show Hid (Lies own τ w' bt g s) from ((uH HL).turn T))))))
 go_region_held3 (fun w'=>Turn nO W0 w'∧w'.cell? ⟨bt,12,none⟩=some (.pointer (some ⟨g.be,0,none⟩))∧w'.cell? ⟨w.heap.size,0,none⟩=some (.int .i64 (n:Int))∧w'.cell? ⟨w.heap.size,1,none⟩=some (.string key)∧(Hid (Lies own τ w' bt g s))) ((go_split_ands;apply HS;all_goals (repeat (first|(with_reducible first|assumption|exact Turn.refl _ _|apply Turn.sA|apply Turn.sD|refine tN ?_ (by assumption))|((with_reducible refine Turn.sS ?_ ?_);rotate_left;· first|exact Or.inr rfl|exact Or.inr (Or.inl rfl)|exact Or.inl (by simp <;> omega))|(with_reducible refine tG ?_ (by assumption))|(with_reducible first|apply There.drew|apply There.set|refine hNo ?_ (by assumption))|assumption)))) (first|(go_at_call 65;go_split_ands;refine (uH KA _ (by assumption)).mono ?_;rintro e wq ⟨rfl,TC⟩;(try (have TH:=there_new (n:=4) TC hsz (by simp);have q0:=peek_some (TH.are 0 (by omega));have q1:=peek_some (TH.are 1 (by omega));have q2:=peek_some (TH.are 2 (by omega));have q3:=peek_some (TH.are 3 (by omega));have q4:=peek_some (TH.are 4 (by omega));have r0:=TH.free 0;have r1:=TH.free 1;have r2:=TH.free 2;have r3:=TH.free 3;have r4:=TH.free 4))))
 all_goals go_split_ands
 all_goals clear HS
 all_goals (first
   | (generalize hX:World.alloc _ _=X
      have TX:Turn nO W0 X:=by rw [← hX];assumption
      have z0:X.cell? ⟨wq.heap.size,0,none⟩=some (.int .i64 0):=by rw [← hX];exact cOf (new1_0 wq _) 0
      have z1:X.cell? ⟨wq.heap.size,1,none⟩=some (.int .i64 0):=by rw [← hX];exact cOf (new1_0 wq _) 1
      have z2:X.cell? ⟨wq.heap.size,2,none⟩=some (.string ⟨#[]⟩):=by rw [← hX];exact cOf (new1_0 wq _) 2
      have z3:X.cell? ⟨wq.heap.size,3,none⟩=some (.int .i64 0):=by rw [← hX];exact cOf (new1_0 wq _) 3
      have z4:X.cell? ⟨wq.heap.size,4,none⟩=some (.int .i64 0):=by rw [← hX];exact cOf (new1_0 wq _) 4
      have f0:X.frozen? ⟨wq.heap.size,0,none⟩=false:=by rw [← hX];exact fOf (new1_0 wq _) 0
      have f1:X.frozen? ⟨wq.heap.size,1,none⟩=false:=by rw [← hX];exact fOf (new1_0 wq _) 1
      have f2:X.frozen? ⟨wq.heap.size,2,none⟩=false:=by rw [← hX];exact fOf (new1_0 wq _) 2
      have f3:X.frozen? ⟨wq.heap.size,3,none⟩=false:=by rw [← hX];exact fOf (new1_0 wq _) 3
      have f4:X.frozen? ⟨wq.heap.size,4,none⟩=false:=by rw [← hX];exact fOf (new1_0 wq _) 4
      have hBw:w.heap.size≤wq.heap.size:=Nat.le_trans (by omega:w.heap.size≤w.heap.size+1+1) (hsz ▸ TC.size)
      have hB0:W0.heap.size≤wq.heap.size:=TC.size
      clear hX TC
      generalize wq.heap.size=B at *)
   | (generalize hX:World.setCell _ _ _=X
      have TX:Turn nO W0 X:=by rw [← hX];assumption
      have z0:X.cell? ⟨w.heap.size+1+1,0,none⟩=some (.int .i64 0):=by rw [← hX];simp [go_sem,TH.are 0 (by omega)]
      have z1:X.cell? ⟨w.heap.size+1+1,1,none⟩=some (.int .i64 0):=by rw [← hX];simp [go_sem,TH.are 1 (by omega)]
      have z2:X.cell? ⟨w.heap.size+1+1,2,none⟩=some (.string ⟨#[]⟩):=by rw [← hX];simp [go_sem,TH.are 2 (by omega)]
      have z3:X.cell? ⟨w.heap.size+1+1,3,none⟩=some (.int .i64 0):=by rw [← hX];simp [go_sem,TH.are 3 (by omega)]
      have z4:X.cell? ⟨w.heap.size+1+1,4,none⟩=some (.int .i64 0):=by rw [← hX];simp [go_sem,TH.are 4 (by omega)]
      have f0:X.frozen? ⟨w.heap.size+1+1,0,none⟩=false:=by rw [← hX];simp [go_sem,TH.free 0]
      have f1:X.frozen? ⟨w.heap.size+1+1,1,none⟩=false:=by rw [← hX];simp [go_sem,TH.free 1]
      have f2:X.frozen? ⟨w.heap.size+1+1,2,none⟩=false:=by rw [← hX];simp [go_sem,TH.free 2]
      have f3:X.frozen? ⟨w.heap.size+1+1,3,none⟩=false:=by rw [← hX];simp [go_sem,TH.free 3]
      have f4:X.frozen? ⟨w.heap.size+1+1,4,none⟩=false:=by rw [← hX];simp [go_sem,TH.free 4]
      have hBw:w.heap.size≤w.heap.size+1+1:=by omega
      have hB0:W0.heap.size≤w.heap.size+1+1:=by omega
      clear hX TC
      clear TH q0 r0
      generalize hB:w.heap.size+1+1=B at *))
 all_goals (have y0_0:=TX.cell x0_0 id)
 all_goals (have y0_1:=TX.cell x0_1 id)
 all_goals (have y1_0:=TX.cell x1_0 id)
 all_goals (have y1_1:=TX.cell x1_1 id)
 all_goals (have y1_2:=TX.cell x1_2 id)
 all_goals (have y1_3:=TX.cell x1_3 id)
 all_goals (have y1_4:=TX.cell x1_4 id)
 all_goals (have y1_5:=TX.cell x1_5 id)
 all_goals (have y1_6:=TX.cell x1_6 id)
 all_goals (have y1_7:=TX.cell x1_7 id)
 all_goals (have y1_8:=TX.cell x1_8 id)
 all_goals (
   have v12:=TX.cell c12 id
   have v6:=TX.cell c6 id
   have HLX:=hide ((uH HL).turn TX)
   go_wp2)
 all_goals (
   have HS:=fun w' (T:Turn nO X w')=>And.intro T (And.intro (T.cell v6 id) (T.cell y0_0 id))
   go_region_held3 (fun w'=>Turn nO X w'∧w'.cell? ⟨bt,6+n,none⟩=some (.int .i64 ck)∧w'.cell? ⟨w.heap.size,0,none⟩=some (.int .i64 (n:Int))) ((go_split_ands;apply HS;all_goals (repeat (first|(with_reducible first|assumption|exact Turn.refl _ _|apply Turn.sA|apply Turn.sD|refine tN ?_ (by assumption))|((with_reducible refine Turn.sS ?_ ?_);rotate_left;· first|exact Or.inr rfl|exact Or.inr (Or.inl rfl)|exact Or.inl (by simp <;> omega))|(with_reducible refine tG ?_ (by assumption))|(with_reducible first|apply There.drew|apply There.set|refine hNo ?_ (by assumption))|assumption)))) (fail))
 all_goals go_split_ands
 all_goals clear HS
 all_goals (
   have hS4:Hid (∀ (w':World) (o':Own) (g':Gh) (s':PS),Lies o' τ w' bt g' s'→g.Like g'→w'.cell? ⟨w.heap.size,0,none⟩=some (.int .i64 (n:Int))→w'.cell? ⟨w.heap.size,1,none⟩=some (.string key)→w'.cell? ⟨w.heap.size+1,5,none⟩=some (.int .i64 ver)→w'.cell? ⟨w.heap.size+1,7,none⟩=some (.int .i64 pres)→w'.cell? ⟨w.heap.size+1,8,none⟩=some (.string val) →
     w'.cell? ⟨bt,12,none⟩=some (.pointer (some ⟨g.be,0,none⟩))∧w'.cell? ⟨w.heap.size,0,none⟩=some (.int .i64 (n:Int))∧w'.cell? ⟨w.heap.size,1,none⟩=some (.string key)∧w'.cell? ⟨w.heap.size+1,5,none⟩=some (.int .i64 ver)∧w'.cell? ⟨w.heap.size+1,7,none⟩=some (.int .i64 pres)∧w'.cell? ⟨w.heap.size+1,8,none⟩=some (.string val)):=fun w' o' g' s' L GL a b c d e=>⟨by rw [← GL.be];exact cOf L.tier.block 12,a,b,c,d,e⟩
   have ho0:own w.heap.size=none:=(uH HH).top _ (Nat.le_refl _)
   have ho1:own (w.heap.size+1)=none:=(uH HH).top _ (by omega)
   go_wp2
   go_region_held3 (fun w'=>w'.cell? ⟨bt,12,none⟩=some (.pointer (some ⟨g.be,0,none⟩))∧w'.cell? ⟨w.heap.size,0,none⟩=some (.int .i64 (n:Int))∧w'.cell? ⟨w.heap.size,1,none⟩=some (.string key)∧w'.cell? ⟨w.heap.size+1,5,none⟩=some (.int .i64 ver)∧w'.cell? ⟨w.heap.size+1,7,none⟩=some (.int .i64 pres)∧w'.cell? ⟨w.heap.size+1,8,none⟩=some (.string val))
     ((first|exact uH hS4 _ own g s ((uH HLX).turn ((Turn.drew _ _).sD)) (Gh.Like.refl g) y0_0 y0_1 y1_5 y1_7 y1_8|exact uH hS4 _ _ _ _ L4 GL4 (S4.cell (w:=X.drew.drew) y0_0 ho0) (S4.cell (w:=X.drew.drew) y0_1 ho0) (S4.cell (w:=X.drew.drew) y1_5 ho1) (S4.cell (w:=X.drew.drew) y1_7 ho1) (S4.cell (w:=X.drew.drew) y1_8 ho1)))
     (first|(go_at_call 131;refine (uH KS _ ((uH HLX).turn ((Turn.drew _ _).sD))).mono ?_;rintro e w4 ⟨rfl,own4,g4,L4,S4,GL4⟩)))
 all_goals (
   go_split_ands
   have HE:=hide (And.intro L4 (And.intro ((Step.of_turn (((T0.sT TX (fun _ _ h=>h)).sD).sD)).trans S4) GL4))
   clear L4 S4 GL4
   go_wp2
   go_end0
   exact ⟨rfl,own4,g4,(uH HE).1,(uH HE).2.1,(uH HE).2.2⟩)
theorem learn_less (own:Own) (τ bt:Nat) (g:Gh) (s:PS) (n:Nat) (m:Mes) (base:Int) (w:World) (h:Lies own τ w bt g s) (hf:s.Fine) (hn:n<6) (h2:m.key.size≤100) (hen:0<s.c.entries) (hul:(s.used n).length≤999) (hks:∀ k∈s.used n,k.size≤100) (e0:Ent) (he:s.entry n m.key=some e0) (hlt:e0.ver<m.ver) :
    Calls Tryz.prog 126 #[.pointer (some ⟨bt,0,none⟩),placeV (n,m.key),mesV m,.int .i64 base] w fun r w'=>r= .returned (.tuple #[])∧∃ own' g',Lies own' τ w' bt g' (s.store n m.key ⟨m.ver,m.pres,m.val,base,s.clk n⟩)∧Step τ own own' w w'∧g.Like g':=by
 have HH:=hide h
 have d12:w.cell? ⟨bt,12,none⟩=some (.pointer (some ⟨g.be,0,none⟩)):=cOf h.tier.block 12
 have d6:w.cell? ⟨bt,6+n,none⟩=some (.int .i64 (s.clk n)):=h.tier.clk hn
 have KA:=hide (fun w (h:Hid (Lies own τ w bt g s))=>At_lies n m.key w h (by omega) h2)
 have KS:=hide (fun w (h:Lies own τ w bt g s)=>Store_any own τ bt g s n m.key ⟨m.ver,m.pres,m.val,base,s.clk n⟩ w h hf hn h2 hen hul hks)
 rw [he] at KA
 clear h hf he hen hul hks
 have i0:(0:Int)≤(n:Int):=by omega
 have i1:(n:Int)<6:=by omega
 generalize s.clk n=ck at *
 obtain ⟨ver0,pres0,val0,base0,since0⟩:=e0
 obtain ⟨kind,frm,tto,key,serial,ver,age,pres,val⟩:=m
 simp only [mesV,mesL,entV,placeV,Option.getD,Option.isSome] at KA KS ⊢
 dsimp only at hlt
 go_enter Tryz.func126,Tryz.ntmps126
 go_wp2
 generalize hW:World.alloc _ _=W0
 have T0:Turn nO w W0:=by rw [← hW];exact (Turn.alloc _ _ _).sA
 have hsz:W0.heap.size=w.heap.size+1+1:=by rw [← hW];simp
 have x0:∃ ty,W0.heap[w.heap.size]?=some (.cells #[.int .i64 (n:Int),.string key] ty (0,0)):=by rw [← hW];exact ⟨_,new2_0 _ _ _⟩
 obtain ⟨x0_0,x0_1⟩:=eC2 x0
 have x1:∃ ty,W0.heap[w.heap.size+1]?=some (.cells #[.int .i64 kind,.int .i64 frm,.int .i64 tto,.string key,.int .i64 serial,.int .i64 ver,.int .i64 age,.int .i64 pres,.string val] ty (0,0)):=by rw [← hW];exact ⟨_,new2_1 _ _ _⟩
 obtain ⟨x1_0,x1_1,x1_2,x1_3,x1_4,x1_5,x1_6,x1_7,x1_8⟩:=eC9 x1
 have c12:=T0.cell d12 id
 have c6:=T0.cell d6 id
 have HL:=hide ((uH HH).turn T0)
 clear hW d12 d6
 have HS:=fun w' (T:Turn nO W0 w')=>And.intro T (And.intro (T.cell c12 id) (And.intro (T.cell x0_0 id) (And.intro (T.cell x0_1 id) ((show Hid (Lies own τ w' bt g s) from ((uH HL).turn T))))))
 go_region_held3 (fun w'=>Turn nO W0 w'∧w'.cell? ⟨bt,12,none⟩=some (.pointer (some ⟨g.be,0,none⟩))∧w'.cell? ⟨w.heap.size,0,none⟩=some (.int .i64 (n:Int))∧w'.cell? ⟨w.heap.size,1,none⟩=some (.string key)∧(Hid (Lies own τ w' bt g s))) ((go_split_ands;apply HS;all_goals (repeat (first|(with_reducible first|assumption|exact Turn.refl _ _|apply Turn.sA|apply Turn.sD|refine tN ?_ (by assumption))|((with_reducible refine Turn.sS ?_ ?_);rotate_left;· first|exact Or.inr rfl|exact Or.inr (Or.inl rfl)|exact Or.inl (by simp <;> omega))|(with_reducible refine tG ?_ (by assumption))|(with_reducible first|apply There.drew|apply There.set|refine hNo ?_ (by assumption))|assumption)))) (first|(go_at_call 65;go_split_ands;refine (uH KA _ (by assumption)).mono ?_;rintro e wq ⟨rfl,TC⟩;(try (have TH:=there_new (n:=4) TC hsz (by simp);have q0:=peek_some (TH.are 0 (by omega));have q1:=peek_some (TH.are 1 (by omega));have q2:=peek_some (TH.are 2 (by omega));have q3:=peek_some (TH.are 3 (by omega));have q4:=peek_some (TH.are 4 (by omega));have r0:=TH.free 0;have r1:=TH.free 1;have r2:=TH.free 2;have r3:=TH.free 3;have r4:=TH.free 4))))
 all_goals go_split_ands
 all_goals clear HS
 all_goals (first
   | (generalize hX:World.alloc _ _=X
      have TX:Turn nO W0 X:=by rw [← hX];assumption
      have z0:X.cell? ⟨wq.heap.size,0,none⟩=some (.int .i64 ver0):=by rw [← hX];exact cOf (new1_0 wq _) 0
      have z1:X.cell? ⟨wq.heap.size,1,none⟩=some (.int .i64 pres0):=by rw [← hX];exact cOf (new1_0 wq _) 1
      have z2:X.cell? ⟨wq.heap.size,2,none⟩=some (.string val0):=by rw [← hX];exact cOf (new1_0 wq _) 2
      have z3:X.cell? ⟨wq.heap.size,3,none⟩=some (.int .i64 base0):=by rw [← hX];exact cOf (new1_0 wq _) 3
      have z4:X.cell? ⟨wq.heap.size,4,none⟩=some (.int .i64 since0):=by rw [← hX];exact cOf (new1_0 wq _) 4
      have f0:X.frozen? ⟨wq.heap.size,0,none⟩=false:=by rw [← hX];exact fOf (new1_0 wq _) 0
      have f1:X.frozen? ⟨wq.heap.size,1,none⟩=false:=by rw [← hX];exact fOf (new1_0 wq _) 1
      have f2:X.frozen? ⟨wq.heap.size,2,none⟩=false:=by rw [← hX];exact fOf (new1_0 wq _) 2
      have f3:X.frozen? ⟨wq.heap.size,3,none⟩=false:=by rw [← hX];exact fOf (new1_0 wq _) 3
      have f4:X.frozen? ⟨wq.heap.size,4,none⟩=false:=by rw [← hX];exact fOf (new1_0 wq _) 4
      have hBw:w.heap.size≤wq.heap.size:=Nat.le_trans (by omega:w.heap.size≤w.heap.size+1+1) (hsz ▸ TC.size)
      have hB0:W0.heap.size≤wq.heap.size:=TC.size
      clear hX TC
      generalize wq.heap.size=B at *)
   | (generalize hX:World.setCell _ _ _=X
      have TX:Turn nO W0 X:=by rw [← hX];assumption
      have z0:X.cell? ⟨w.heap.size+1+1,0,none⟩=some (.int .i64 ver0):=by rw [← hX];simp [go_sem,TH.are 0 (by omega)]
      have z1:X.cell? ⟨w.heap.size+1+1,1,none⟩=some (.int .i64 pres0):=by rw [← hX];simp [go_sem,TH.are 1 (by omega)]
      have z2:X.cell? ⟨w.heap.size+1+1,2,none⟩=some (.string val0):=by rw [← hX];simp [go_sem,TH.are 2 (by omega)]
      have z3:X.cell? ⟨w.heap.size+1+1,3,none⟩=some (.int .i64 base0):=by rw [← hX];simp [go_sem,TH.are 3 (by omega)]
      have z4:X.cell? ⟨w.heap.size+1+1,4,none⟩=some (.int .i64 since0):=by rw [← hX];simp [go_sem,TH.are 4 (by omega)]
      have f0:X.frozen? ⟨w.heap.size+1+1,0,none⟩=false:=by rw [← hX];simp [go_sem,TH.free 0]
      have f1:X.frozen? ⟨w.heap.size+1+1,1,none⟩=false:=by rw [← hX];simp [go_sem,TH.free 1]
      have f2:X.frozen? ⟨w.heap.size+1+1,2,none⟩=false:=by rw [← hX];simp [go_sem,TH.free 2]
      have f3:X.frozen? ⟨w.heap.size+1+1,3,none⟩=false:=by rw [← hX];simp [go_sem,TH.free 3]
      have f4:X.frozen? ⟨w.heap.size+1+1,4,none⟩=false:=by rw [← hX];simp [go_sem,TH.free 4]
      have hBw:w.heap.size≤w.heap.size+1+1:=by omega
      have hB0:W0.heap.size≤w.heap.size+1+1:=by omega
      clear hX TC
      clear TH q0 r0
      generalize hB:w.heap.size+1+1=B at *))
 all_goals (have y0_0:=TX.cell x0_0 id)
 all_goals (have y0_1:=TX.cell x0_1 id)
 all_goals (have y1_0:=TX.cell x1_0 id)
 all_goals (have y1_1:=TX.cell x1_1 id)
 all_goals (have y1_2:=TX.cell x1_2 id)
 all_goals (have y1_3:=TX.cell x1_3 id)
 all_goals (have y1_4:=TX.cell x1_4 id)
 all_goals (have y1_5:=TX.cell x1_5 id)
 all_goals (have y1_6:=TX.cell x1_6 id)
 all_goals (have y1_7:=TX.cell x1_7 id)
 all_goals (have y1_8:=TX.cell x1_8 id)
 all_goals (
   have v12:=TX.cell c12 id
   have v6:=TX.cell c6 id
   have HLX:=hide ((uH HL).turn TX)
   go_wp2)
 all_goals (
   have HS:=fun w' (T:Turn nO X w')=>And.intro T (And.intro (T.cell v6 id) (T.cell y0_0 id))
   go_region_held3 (fun w'=>Turn nO X w'∧w'.cell? ⟨bt,6+n,none⟩=some (.int .i64 ck)∧w'.cell? ⟨w.heap.size,0,none⟩=some (.int .i64 (n:Int))) ((go_split_ands;apply HS;all_goals (repeat (first|(with_reducible first|assumption|exact Turn.refl _ _|apply Turn.sA|apply Turn.sD|refine tN ?_ (by assumption))|((with_reducible refine Turn.sS ?_ ?_);rotate_left;· first|exact Or.inr rfl|exact Or.inr (Or.inl rfl)|exact Or.inl (by simp <;> omega))|(with_reducible refine tG ?_ (by assumption))|(with_reducible first|apply There.drew|apply There.set|refine hNo ?_ (by assumption))|assumption)))) (fail))
 all_goals go_split_ands
 all_goals clear HS
 all_goals (
   have hS4:Hid (∀ (w':World) (o':Own) (g':Gh) (s':PS),Lies o' τ w' bt g' s'→g.Like g'→w'.cell? ⟨w.heap.size,0,none⟩=some (.int .i64 (n:Int))→w'.cell? ⟨w.heap.size,1,none⟩=some (.string key)→w'.cell? ⟨w.heap.size+1,5,none⟩=some (.int .i64 ver)→w'.cell? ⟨w.heap.size+1,7,none⟩=some (.int .i64 pres)→w'.cell? ⟨w.heap.size+1,8,none⟩=some (.string val) →
     w'.cell? ⟨bt,12,none⟩=some (.pointer (some ⟨g.be,0,none⟩))∧w'.cell? ⟨w.heap.size,0,none⟩=some (.int .i64 (n:Int))∧w'.cell? ⟨w.heap.size,1,none⟩=some (.string key)∧w'.cell? ⟨w.heap.size+1,5,none⟩=some (.int .i64 ver)∧w'.cell? ⟨w.heap.size+1,7,none⟩=some (.int .i64 pres)∧w'.cell? ⟨w.heap.size+1,8,none⟩=some (.string val)):=fun w' o' g' s' L GL a b c d e=>⟨by rw [← GL.be];exact cOf L.tier.block 12,a,b,c,d,e⟩
   have ho0:own w.heap.size=none:=(uH HH).top _ (Nat.le_refl _)
   have ho1:own (w.heap.size+1)=none:=(uH HH).top _ (by omega)
   go_wp2
   go_region_held3 (fun w'=>w'.cell? ⟨bt,12,none⟩=some (.pointer (some ⟨g.be,0,none⟩))∧w'.cell? ⟨w.heap.size,0,none⟩=some (.int .i64 (n:Int))∧w'.cell? ⟨w.heap.size,1,none⟩=some (.string key)∧w'.cell? ⟨w.heap.size+1,5,none⟩=some (.int .i64 ver)∧w'.cell? ⟨w.heap.size+1,7,none⟩=some (.int .i64 pres)∧w'.cell? ⟨w.heap.size+1,8,none⟩=some (.string val))
     ((first|exact uH hS4 _ own g s ((uH HLX).turn ((Turn.drew _ _).sD)) (Gh.Like.refl g) y0_0 y0_1 y1_5 y1_7 y1_8|exact uH hS4 _ _ _ _ L4 GL4 (S4.cell (w:=X.drew.drew) y0_0 ho0) (S4.cell (w:=X.drew.drew) y0_1 ho0) (S4.cell (w:=X.drew.drew) y1_5 ho1) (S4.cell (w:=X.drew.drew) y1_7 ho1) (S4.cell (w:=X.drew.drew) y1_8 ho1)))
     (first|(go_at_call 131;refine (uH KS _ ((uH HLX).turn ((Turn.drew _ _).sD))).mono ?_;rintro e w4 ⟨rfl,own4,g4,L4,S4,GL4⟩)))
 all_goals (
   go_split_ands
   have HE:=hide (And.intro L4 (And.intro ((Step.of_turn (((T0.sT TX (fun _ _ h=>h)).sD).sD)).trans S4) GL4))
   clear L4 S4 GL4
   go_wp2
   go_end0
   exact ⟨rfl,own4,g4,(uH HE).1,(uH HE).2.1,(uH HE).2.2⟩)
theorem learn_same (own:Own) (τ bt:Nat) (g:Gh) (s:PS) (n:Nat) (m:Mes) (base:Int) (w:World) (h:Lies own τ w bt g s) (hf:s.Fine) (hn:n<6) (h2:m.key.size≤100) (hen:0<s.c.entries) (hul:(s.used n).length≤999) (hks:∀ k∈s.used n,k.size≤100) (e0:Ent) (he:s.entry n m.key=some e0) (hv:e0.ver=m.ver) (hb:base≤ageAt s.c.drift (s.clk n) e0) :
    Calls Tryz.prog 126 #[.pointer (some ⟨bt,0,none⟩),placeV (n,m.key),mesV m,.int .i64 base] w fun r w'=>r= .returned (.tuple #[])∧∃ own' g',Lies own' τ w' bt g' (s.store n m.key ⟨e0.ver,e0.pres,e0.val,base,s.clk n⟩)∧Step τ own own' w w'∧g.Like g':=by
 have HH:=hide h
 have d12:w.cell? ⟨bt,12,none⟩=some (.pointer (some ⟨g.be,0,none⟩)):=cOf h.tier.block 12
 have d6:w.cell? ⟨bt,6+n,none⟩=some (.int .i64 (s.clk n)):=h.tier.clk hn
 have KA:=hide (fun w (h:Hid (Lies own τ w bt g s))=>At_lies n m.key w h (by omega) h2)
 have KS:=hide (fun w (h:Lies own τ w bt g s)=>Store_any own τ bt g s n m.key ⟨e0.ver,e0.pres,e0.val,base,s.clk n⟩ w h hf hn h2 hen hul hks)
 have hfe:e0.Fine (s.clk n):=(hf.ents _ (aget_mem he)).1
 have KG:Hid (∀ w,Lies own τ w bt g s→Calls Tryz.prog 98 #[.pointer (some ⟨bt,0,none⟩),.int .i64 (n:Int),entV e0] w fun r w'=>r= .returned (.int .i64 (ageAt s.c.drift (s.clk n) e0))∧Turn nO w w'):=fun w h=>age_any bt (s.ts g) n e0 w h.tier (hf.ts g) hn hfe
 rw [he] at KA
 generalize ageAt s.c.drift (s.clk n) e0=ag at *
 clear h hf he hen hul hks hfe
 have i0:(0:Int)≤(n:Int):=by omega
 have i1:(n:Int)<6:=by omega
 generalize s.clk n=ck at *
 obtain ⟨ver0,pres0,val0,base0,since0⟩:=e0
 obtain ⟨kind,frm,tto,key,serial,ver,age,pres,val⟩:=m
 dsimp only at hv
 subst hv
 have hnl:¬ ver0<ver0:=Int.lt_irrefl _
 simp only [mesV,mesL,entV,placeV,Option.getD,Option.isSome] at KA KG KS ⊢
 go_enter Tryz.func126,Tryz.ntmps126
 go_wp2
 generalize hW:World.alloc _ _=W0
 have T0:Turn nO w W0:=by rw [← hW];exact (Turn.alloc _ _ _).sA
 have hsz:W0.heap.size=w.heap.size+1+1:=by rw [← hW];simp
 have x0:∃ ty,W0.heap[w.heap.size]?=some (.cells #[.int .i64 (n:Int),.string key] ty (0,0)):=by rw [← hW];exact ⟨_,new2_0 _ _ _⟩
 obtain ⟨x0_0,x0_1⟩:=eC2 x0
 have x1:∃ ty,W0.heap[w.heap.size+1]?=some (.cells #[.int .i64 kind,.int .i64 frm,.int .i64 tto,.string key,.int .i64 serial,.int .i64 ver0,.int .i64 age,.int .i64 pres,.string val] ty (0,0)):=by rw [← hW];exact ⟨_,new2_1 _ _ _⟩
 obtain ⟨x1_0,x1_1,x1_2,x1_3,x1_4,x1_5,x1_6,x1_7,x1_8⟩:=eC9 x1
 have c12:=T0.cell d12 id
 have c6:=T0.cell d6 id
 have HL:=hide ((uH HH).turn T0)
 clear hW d12 d6
 have HS:=fun w' (T:Turn nO W0 w')=>And.intro T (And.intro (T.cell c12 id) (And.intro (T.cell x0_0 id) (And.intro (T.cell x0_1 id) ((show Hid (Lies own τ w' bt g s) from ((uH HL).turn T))))))
 go_region_held3 (fun w'=>Turn nO W0 w'∧w'.cell? ⟨bt,12,none⟩=some (.pointer (some ⟨g.be,0,none⟩))∧w'.cell? ⟨w.heap.size,0,none⟩=some (.int .i64 (n:Int))∧w'.cell? ⟨w.heap.size,1,none⟩=some (.string key)∧(Hid (Lies own τ w' bt g s))) ((go_split_ands;apply HS;all_goals (repeat (first|(with_reducible first|assumption|exact Turn.refl _ _|apply Turn.sA|apply Turn.sD|refine tN ?_ (by assumption))|((with_reducible refine Turn.sS ?_ ?_);rotate_left;· first|exact Or.inr rfl|exact Or.inr (Or.inl rfl)|exact Or.inl (by simp <;> omega))|(with_reducible refine tG ?_ (by assumption))|(with_reducible first|apply There.drew|apply There.set|refine hNo ?_ (by assumption))|assumption)))) (first|(go_at_call 65;go_split_ands;refine (uH KA _ (by assumption)).mono ?_;rintro e wq ⟨rfl,TC⟩;(try (have TH:=there_new (n:=4) TC hsz (by simp);have q0:=peek_some (TH.are 0 (by omega));have q1:=peek_some (TH.are 1 (by omega));have q2:=peek_some (TH.are 2 (by omega));have q3:=peek_some (TH.are 3 (by omega));have q4:=peek_some (TH.are 4 (by omega));have r0:=TH.free 0;have r1:=TH.free 1;have r2:=TH.free 2;have r3:=TH.free 3;have r4:=TH.free 4))))
 all_goals go_split_ands
 all_goals clear HS
 all_goals (first
   | (generalize hX:World.alloc _ _=X
      have TX:Turn nO W0 X:=by rw [← hX];assumption
      have z0:X.cell? ⟨wq.heap.size,0,none⟩=some (.int .i64 ver0):=by rw [← hX];exact cOf (new1_0 wq _) 0
      have z1:X.cell? ⟨wq.heap.size,1,none⟩=some (.int .i64 pres0):=by rw [← hX];exact cOf (new1_0 wq _) 1
      have z2:X.cell? ⟨wq.heap.size,2,none⟩=some (.string val0):=by rw [← hX];exact cOf (new1_0 wq _) 2
      have z3:X.cell? ⟨wq.heap.size,3,none⟩=some (.int .i64 base0):=by rw [← hX];exact cOf (new1_0 wq _) 3
      have z4:X.cell? ⟨wq.heap.size,4,none⟩=some (.int .i64 since0):=by rw [← hX];exact cOf (new1_0 wq _) 4
      have f0:X.frozen? ⟨wq.heap.size,0,none⟩=false:=by rw [← hX];exact fOf (new1_0 wq _) 0
      have f1:X.frozen? ⟨wq.heap.size,1,none⟩=false:=by rw [← hX];exact fOf (new1_0 wq _) 1
      have f2:X.frozen? ⟨wq.heap.size,2,none⟩=false:=by rw [← hX];exact fOf (new1_0 wq _) 2
      have f3:X.frozen? ⟨wq.heap.size,3,none⟩=false:=by rw [← hX];exact fOf (new1_0 wq _) 3
      have f4:X.frozen? ⟨wq.heap.size,4,none⟩=false:=by rw [← hX];exact fOf (new1_0 wq _) 4
      have hBw:w.heap.size≤wq.heap.size:=Nat.le_trans (by omega:w.heap.size≤w.heap.size+1+1) (hsz ▸ TC.size)
      have hB0:W0.heap.size≤wq.heap.size:=TC.size
      clear hX TC
      generalize wq.heap.size=B at *)
   | (generalize hX:World.setCell _ _ _=X
      have TX:Turn nO W0 X:=by rw [← hX];assumption
      have z0:X.cell? ⟨w.heap.size+1+1,0,none⟩=some (.int .i64 ver0):=by rw [← hX];simp [go_sem,TH.are 0 (by omega)]
      have z1:X.cell? ⟨w.heap.size+1+1,1,none⟩=some (.int .i64 pres0):=by rw [← hX];simp [go_sem,TH.are 1 (by omega)]
      have z2:X.cell? ⟨w.heap.size+1+1,2,none⟩=some (.string val0):=by rw [← hX];simp [go_sem,TH.are 2 (by omega)]
      have z3:X.cell? ⟨w.heap.size+1+1,3,none⟩=some (.int .i64 base0):=by rw [← hX];simp [go_sem,TH.are 3 (by omega)]
      have z4:X.cell? ⟨w.heap.size+1+1,4,none⟩=some (.int .i64 since0):=by rw [← hX];simp [go_sem,TH.are 4 (by omega)]
      have f0:X.frozen? ⟨w.heap.size+1+1,0,none⟩=false:=by rw [← hX];simp [go_sem,TH.free 0]
      have f1:X.frozen? ⟨w.heap.size+1+1,1,none⟩=false:=by rw [← hX];simp [go_sem,TH.free 1]
      have f2:X.frozen? ⟨w.heap.size+1+1,2,none⟩=false:=by rw [← hX];simp [go_sem,TH.free 2]
      have f3:X.frozen? ⟨w.heap.size+1+1,3,none⟩=false:=by rw [← hX];simp [go_sem,TH.free 3]
      have f4:X.frozen? ⟨w.heap.size+1+1,4,none⟩=false:=by rw [← hX];simp [go_sem,TH.free 4]
      have hBw:w.heap.size≤w.heap.size+1+1:=by omega
      have hB0:W0.heap.size≤w.heap.size+1+1:=by omega
      clear hX TC
      clear TH q0 r0
      generalize hB:w.heap.size+1+1=B at *))
 all_goals (have y0_0:=TX.cell x0_0 id)
 all_goals (have y0_1:=TX.cell x0_1 id)
 all_goals (have y1_0:=TX.cell x1_0 id)
 all_goals (have y1_1:=TX.cell x1_1 id)
 all_goals (have y1_2:=TX.cell x1_2 id)
 all_goals (have y1_3:=TX.cell x1_3 id)
 all_goals (have y1_4:=TX.cell x1_4 id)
 all_goals (have y1_5:=TX.cell x1_5 id)
 all_goals (have y1_6:=TX.cell x1_6 id)
 all_goals (have y1_7:=TX.cell x1_7 id)
 all_goals (have y1_8:=TX.cell x1_8 id)
 all_goals (
   have v12:=TX.cell c12 id
   have v6:=TX.cell c6 id
   have HLX:=hide ((uH HL).turn TX)
   go_wp2)
 all_goals (
   have HS:=fun w' (T:Turn nO X w')=>And.intro T (And.intro (T.cell v6 id) (T.cell y0_0 id))
   go_region_held3 (fun w'=>Turn nO X w'∧w'.cell? ⟨bt,6+n,none⟩=some (.int .i64 ck)∧w'.cell? ⟨w.heap.size,0,none⟩=some (.int .i64 (n:Int))) ((go_split_ands;apply HS;all_goals (repeat (first|(with_reducible first|assumption|exact Turn.refl _ _|apply Turn.sA|apply Turn.sD|refine tN ?_ (by assumption))|((with_reducible refine Turn.sS ?_ ?_);rotate_left;· first|exact Or.inr rfl|exact Or.inr (Or.inl rfl)|exact Or.inl (by simp <;> omega))|(with_reducible refine tG ?_ (by assumption))|(with_reducible first|apply There.drew|apply There.set|refine hNo ?_ (by assumption))|assumption)))) (fail))
 all_goals go_split_ands
 all_goals clear HS
 all_goals (
   go_wp2_with fail)
 all_goals (
   refine (uH KG _ ((uH HLX).turn (Turn.drew _ _))).mono ?_
   rintro e w5 ⟨rfl,T5⟩
   have TX5:Turn nO X w5:=((Turn.drew _ _).sT T5 (fun _ _ h=>h))
   have u0:=TX5.cell z0 id
   have u1:=TX5.cell z1 id
   have u2:=TX5.cell z2 id
   have u3:=TX5.cell z3 id
   have u4:=TX5.cell z4 id
   have p3:w5.frozen? ⟨B,3,none⟩=false:=TX5.froz z3 id f3
   have p4:w5.frozen? ⟨B,4,none⟩=false:=TX5.froz z4 id f4
   have u00:=TX5.cell y0_0 id
   have u01:=TX5.cell y0_1 id
   have u12:=TX5.cell v12 id
   have HL5:=hide ((uH HLX).turn TX5)
   go_wp2)
 all_goals (
   have hz:w5.heap.size ≥ W0.heap.size:=Nat.le_trans TX.size TX5.size
   have TY:Turn nO W0 ((w5.setCell ⟨B,3,none⟩ (.int .i64 base)).setCell ⟨B,4,none⟩ (.int .i64 ck)):=((TX.sT TX5 (fun _ _ h=>h)).sS (Or.inl hB0)).sS (Or.inl hB0)
   have r0:((w5.setCell ⟨B,3,none⟩ (.int .i64 base)).setCell ⟨B,4,none⟩ (.int .i64 ck)).cell? ⟨B,0,none⟩=some (.int .i64 ver0):=by go_simp
   have r1:((w5.setCell ⟨B,3,none⟩ (.int .i64 base)).setCell ⟨B,4,none⟩ (.int .i64 ck)).cell? ⟨B,1,none⟩=some (.int .i64 pres0):=by go_simp
   have r2:((w5.setCell ⟨B,3,none⟩ (.int .i64 base)).setCell ⟨B,4,none⟩ (.int .i64 ck)).cell? ⟨B,2,none⟩=some (.string val0):=by go_simp
   have r3:((w5.setCell ⟨B,3,none⟩ (.int .i64 base)).setCell ⟨B,4,none⟩ (.int .i64 ck)).cell? ⟨B,3,none⟩=some (.int .i64 base):=by go_simp
   have r4:((w5.setCell ⟨B,3,none⟩ (.int .i64 base)).setCell ⟨B,4,none⟩ (.int .i64 ck)).cell? ⟨B,4,none⟩=some (.int .i64 ck):=by go_simp
   generalize World.setCell _ _ _=Y at TY r0 r1 r2 r3 r4 ⊢
   have q00:=TY.cell x0_0 id
   have q01:=TY.cell x0_1 id
   have HLY:=hide ((uH HL).turn TY)
   clear u0 u1 u2 u3 u4 p3 p4 u00 u01 u12 HL5 z0 z1 z2 z3 z4 f0 f1 f2 f3 f4
   have hS4:Hid (∀ (w':World) (o':Own) (g':Gh) (s':PS),Lies o' τ w' bt g' s'→g.Like g'→w'.cell? ⟨w.heap.size,0,none⟩=some (.int .i64 (n:Int))→w'.cell? ⟨w.heap.size,1,none⟩=some (.string key)→w'.cell? ⟨B,0,none⟩=some (.int .i64 ver0)→w'.cell? ⟨B,1,none⟩=some (.int .i64 pres0)→w'.cell? ⟨B,2,none⟩=some (.string val0)→w'.cell? ⟨B,3,none⟩=some (.int .i64 base)→w'.cell? ⟨B,4,none⟩=some (.int .i64 ck) →
     w'.cell? ⟨bt,12,none⟩=some (.pointer (some ⟨g.be,0,none⟩))∧w'.cell? ⟨w.heap.size,0,none⟩=some (.int .i64 (n:Int))∧w'.cell? ⟨w.heap.size,1,none⟩=some (.string key)∧w'.cell? ⟨B,0,none⟩=some (.int .i64 ver0)∧w'.cell? ⟨B,1,none⟩=some (.int .i64 pres0)∧w'.cell? ⟨B,2,none⟩=some (.string val0)∧w'.cell? ⟨B,3,none⟩=some (.int .i64 base)∧w'.cell? ⟨B,4,none⟩=some (.int .i64 ck)):=fun w' o' g' s' L GL a b c d e f h=>⟨by rw [← GL.be];exact cOf L.tier.block 12,a,b,c,d,e,f,h⟩
   have ho0:own w.heap.size=none:=(uH HH).top _ (Nat.le_refl _)
   have hoB:own B=none:=(uH HH).top _ hBw
   go_region_held3 (fun w'=>w'.cell? ⟨bt,12,none⟩=some (.pointer (some ⟨g.be,0,none⟩))∧w'.cell? ⟨w.heap.size,0,none⟩=some (.int .i64 (n:Int))∧w'.cell? ⟨w.heap.size,1,none⟩=some (.string key)∧w'.cell? ⟨B,0,none⟩=some (.int .i64 ver0)∧w'.cell? ⟨B,1,none⟩=some (.int .i64 pres0)∧w'.cell? ⟨B,2,none⟩=some (.string val0)∧w'.cell? ⟨B,3,none⟩=some (.int .i64 base)∧w'.cell? ⟨B,4,none⟩=some (.int .i64 ck))
     ((first|exact uH hS4 _ own g s ((uH HLY).turn (Turn.drew _ _)) (Gh.Like.refl g) q00 q01 r0 r1 r2 r3 r4|exact uH hS4 _ _ _ _ L4 GL4 (S4.cell (w:=Y.drew) q00 ho0) (S4.cell (w:=Y.drew) q01 ho0) (S4.cell (w:=Y.drew) r0 hoB) (S4.cell (w:=Y.drew) r1 hoB) (S4.cell (w:=Y.drew) r2 hoB) (S4.cell (w:=Y.drew) r3 hoB) (S4.cell (w:=Y.drew) r4 hoB)))
     (first|(go_at_call 131;refine (uH KS _ ((uH HLY).turn (Turn.drew _ _))).mono ?_;rintro e w4 ⟨rfl,own4,g4,L4,S4,GL4⟩))
   go_split_ands
   have HE:=hide (And.intro L4 (And.intro ((Step.of_turn ((T0.sT TY (fun _ _ h=>h)).sD)).trans S4) GL4))
   clear L4 S4 GL4
   go_wp2
   go_end0
   exact ⟨rfl,own4,g4,(uH HE).1,(uH HE).2.1,(uH HE).2.2⟩)
end
end Go.Proofs.YtpdkojgepagbnaaGreatDoor
