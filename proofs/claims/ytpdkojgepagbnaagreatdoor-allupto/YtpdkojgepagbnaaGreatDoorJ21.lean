/-
  An answer comes: it is learnt, and the fetch is finished.
  An answer comes.
  A message comes to its node.
  A message comes, is lost, or is sent a second time.
  The other calls: what holds of a tier at all times is kept.
-/
import Derived.Test.YtpdkojgepagbnaaGreatDoorJ18
import Derived.Test.YtpdkojgepagbnaaGreatDoorJ20
import Derived.RegionTactic
import Derived.Test.YtpdkojgepagbnaaGreatDoorJ19
import Derived.Test.YtpdkojgepagbnaaGreatDoorJ17
namespace Go.Proofs.YtpdkojgepagbnaaGreatDoor
set_option maxRecDepth 100000
set_option maxHeartbeats 8000000
section
open Go.RowKit
open Tier (Mes Ans Conf)
attribute [local go_sem ↓] Go.wp_at_zero Go.wp_at_succ
theorem finish_any (own:Own) (τ bt:Nat) (g:Gh) (s:PS) (n:Nat) (k:ByteArray) (e:Ent) (f:Ft) (w:World) (h:Lies own τ w bt g s) (hf:s.Fine) (hn:n<6) (h2:k.size≤100) (hul:(s.used n).length≤1000) (he:s.entry n k=some e) (hft:aget s.fts (n,k)=some f) (hl1:s.net.length+f.l.length<1000000000000) (hl2:s.answers.length+f.l.length<1000000000000) :
    Calls Tryz.prog 128 #[.pointer (some ⟨bt,0,none⟩),placeV (n,k)] w fun r w'=>r= .returned (.tuple #[])∧∃ own' g',Lies own' τ w' bt g' (s.finish n k e f.l)∧Step τ own own' w w'∧g.Like g':=by
 unfold PS.finish
 by_cases hage:ageAt s.c.drift (s.clk n) e≤s.c.budget
 ·rw [if_pos hage];exact finish_fresh own τ bt g s n k e f w h hf hn h2 hul he hft hage hl1 hl2
 ·rw [if_neg hage];exact finish_stale own τ bt g s n k e f w h hf hn h2 hul he hft hage hl1 hl2
theorem answered_full (own:Own) (τ bt:Nat) (g:Gh) (s:PS) (m:Mes) (n:Nat) (w:World) (h:Lies own τ w bt g s) (hto:m.to=(n:Int)) (hn:n<6) (h2:m.key.size≤100) (f:Ft) (hf:s.Fine) (hft:aget s.fts (n,m.key)=some f) (hse:f.serial=m.serial) (hkd:m.kind=2) (base:Int) (hbase:base=m.age+elap s.c.drift (s.clk n - f.sent)) (hb0:0≤m.age) (hb1:m.age≤1000000) (hen:0<s.c.entries) (hul:(s.used n).length≤999) (hks:∀ k∈s.used n,k.size≤100)
    (e:Ent) (hfu:(s.learn n m base).Fine) (heu:(s.learn n m base).entry n m.key=some e) (hulu:((s.learn n m base).used n).length≤1000) (hftu:aget (s.learn n m base).fts (n,m.key)=some f) (hl1:(s.learn n m base).net.length+f.l.length<1000000000000) (hl2:(s.learn n m base).answers.length+f.l.length<1000000000000) :
    Calls Tryz.prog 111 #[.pointer (some ⟨bt,0,none⟩),mesV m] w fun r w'=>r= .returned (.tuple #[])∧∃ own' g',Lies own' τ w' bt g' ((s.learn n m base).finish n m.key e f.l)∧Step τ own own' w w'∧g.Like g':=by
 have hfm:=hf.fts _ (aget_mem hft)
 dsimp only at hfm
 have hel:=elap_le (drift:=s.c.drift) (d:=s.clk n - f.sent) (by omega) (by have:=(hf.ts g).c1 n;have:s.clk n≤1099511627776:=this;omega) (hf.ts g).d0 (hf.ts g).d1
 have hwr:IntKind.i64.wrap (m.age+elap s.c.drift (s.clk n - f.sent))=base:=by rw [IntKind.wrap_i64];omega
 have KL:Hid (∀ w,Lies own τ w bt g s→Calls Tryz.prog 127 #[.pointer (some ⟨bt,0,none⟩),.int .i64 (n:Int),.int .i64 f.sent] w fun r w'=>r= .returned (.int .i64 (elap s.c.drift (s.clk n - f.sent)))∧Turn nO w w'):=fun w h=>elapsed_any bt (s.ts g) n f.sent w h.tier (hf.ts g) hn (by omega) (by show f.sent≤s.clk n;omega)
 have KN:=hide (fun w (h:Lies own τ w bt g s)=>learn_any own τ bt g s n m base w h hf hn h2 hen hul hks)
 have KF:=hide (fun own g w (h:Lies own τ w bt g (s.learn n m base))=>finish_any own τ bt g (s.learn n m base) n m.key e f w h hfu hn h2 hulu heu hftu hl1 hl2)
 generalize s.learn n m base=s2 at *
 generalize elap s.c.drift (s.clk n - f.sent)=el at *
 obtain ⟨fa,fc,hfv⟩:=row_form (h.waits _ (aget_mem hft)).row
 obtain ⟨fser,fsent,fl,fv⟩:=f
 dsimp only at hfv hse KL KF ⊢
 generalize hfn:(fl.map wtL).length=fn at hfv
 subst hfv
 have HH:=hide h
 have htop:Hid (∀ k',w.heap.size≤k'→own k'=none):=h.top
 have d13:w.cell? ⟨bt,13,none⟩=some (.map (some g.bq)):=cOf h.tier.block 13
 have hbq:g.bq<w.heap.size:=h.fts.lt
 have HK:Hid (∀ w':World,w'.heap[g.bq]?=w.heap[g.bq]?→(Instr.lookup 74 (.map (some g.bq)) (.agg #[.int .i64 (n:Int),.string m.key]) true).run Tryz.prog w'= .ok (.tuple #[.agg #[.int .i64 fser,.int .i64 fsent,.slice fa fn fc],.bool true]) w'):=fun w' e=>by
   have:=ft_look (h.fts.heap e) (by omega:n<1000) h2
   rw [hft] at this
   exact this
 clear h hft hf hfm hel hbase hb0 hb1 hen hul hks hfu heu hulu hftu hl1 hl2
 obtain ⟨kind,frm,tto,key,serial,ver,age,pres,val⟩:=m
 dsimp only at *
 subst hto
 subst hse hkd
 simp only [mesV,mesL,placeV] at KN KF ⊢
 go_enter Tryz.func111,Tryz.ntmps111
 go_wp2
 generalize hW:World.alloc _ _=W0
 have T0:Turn nO w W0:=by rw [← hW];exact (Turn.alloc _ _ _).sA
 have hsz:W0.heap.size=w.heap.size+1+1:=by rw [← hW];simp
 have x0:∃ ty,W0.heap[w.heap.size]?=some (.cells #[.int .i64 2,.int .i64 frm,.int .i64 (n:Int),.string key,.int .i64 fser,.int .i64 ver,.int .i64 age,.int .i64 pres,.string val] ty (0,0)):=by rw [← hW];exact ⟨_,new2_0 _ _ _⟩
 obtain ⟨x0_0,x0_1,x0_2,x0_3,x0_4,x0_5,x0_6,x0_7,x0_8⟩:=eC9 x0
 have x1:∃ ty,W0.heap[w.heap.size+1]?=some (.cells #[.int .i64 (n:Int),.string key] ty (0,0)):=by rw [← hW];exact ⟨_,new2_1 _ _ _⟩
 obtain ⟨x1_0,x1_1⟩:=eC2 x1
 have c13:=T0.cell d13 id
 have HL:=hide ((uH HH).turn T0)
 clear hW d13
 have HS:=fun w' (T:Turn nO W0 w')=>And.intro T (And.intro (T.cell c13 id) (And.intro (T.cell x1_0 id) (And.intro (T.cell x1_1 id) ((show (Instr.lookup 74 (.map (some g.bq)) (.agg #[.int .i64 (n:Int),.string key]) true).run Tryz.prog w'= .ok (.tuple #[.agg #[.int .i64 fser,.int .i64 fsent,.slice fa fn fc],.bool true]) w' from (uH HK _ ((T.block _ (by omega) id).trans (T0.block _ hbq id))))))))
 go_region_held3 (fun w'=>Turn nO W0 w'∧w'.cell? ⟨bt,13,none⟩=some (.map (some g.bq))∧w'.cell? ⟨w.heap.size+1,0,none⟩=some (.int .i64 (n:Int))∧w'.cell? ⟨w.heap.size+1,1,none⟩=some (.string key)∧((Instr.lookup 74 (.map (some g.bq)) (.agg #[.int .i64 (n:Int),.string key]) true).run Tryz.prog w'= .ok (.tuple #[.agg #[.int .i64 fser,.int .i64 fsent,.slice fa fn fc],.bool true]) w')) ((go_split_ands;apply HS;all_goals (repeat (first|(with_reducible first|assumption|exact Turn.refl _ _|apply Turn.sA|apply Turn.sD|refine tN ?_ (by assumption))|((with_reducible refine Turn.sS ?_ ?_);rotate_left;· first|exact Or.inr rfl|exact Or.inr (Or.inl rfl)|exact Or.inl (by simp <;> omega))|(with_reducible refine tG ?_ (by assumption))|(with_reducible first|apply There.drew|apply There.set|refine hNo ?_ (by assumption))|assumption)))) (fail)
 all_goals go_split_ands
 all_goals clear HS
 all_goals (
   generalize hV:World.drew _=V
   have TV:Turn nO W0 V:=by rw [← hV];exact (Turn.alloc _ _ _).sD
   have hvb:V.heap[w.heap.size+1+1]?=some (.cells #[.int .i64 fser,.int .i64 fsent,.slice fa fn fc] 154 (0,0)):=by rw [← hV,← hsz];exact new1_0 W0 _
   clear hV
   have v0:=cOf hvb 0
   have v1:=cOf hvb 1
   have v2:=cOf hvb 2
   have HLV:=hide ((uH HL).turn TV)
   have y0_0:=TV.cell x0_0 id
   have y0_1:=TV.cell x0_1 id
   have y0_2:=TV.cell x0_2 id
   have y0_3:=TV.cell x0_3 id
   have y0_4:=TV.cell x0_4 id
   have y0_5:=TV.cell x0_5 id
   have y0_6:=TV.cell x0_6 id
   have y0_7:=TV.cell x0_7 id
   have y0_8:=TV.cell x0_8 id
   have y1_0:=TV.cell x1_0 id
   have y1_1:=TV.cell x1_1 id
   go_wp2
   go_region
   go_wp2
   have TVU:Turn nO V V.drew:=Turn.drew _ _
   generalize V.drew=U at TVU ⊢
   have hnm:∀ {b:Nat},own b=none→¬ Mine own τ b:=fun hb ⟨y,hy⟩=>by rw [hb] at hy;cases hy
   have ay0_0:=TVU.cell y0_0 id
   have ay0_1:=TVU.cell y0_1 id
   have ay0_2:=TVU.cell y0_2 id
   have ay0_3:=TVU.cell y0_3 id
   have ay0_4:=TVU.cell y0_4 id
   have ay0_5:=TVU.cell y0_5 id
   have ay0_6:=TVU.cell y0_6 id
   have ay0_7:=TVU.cell y0_7 id
   have ay0_8:=TVU.cell y0_8 id
   have ay1_0:=TVU.cell y1_0 id
   have ay1_1:=TVU.cell y1_1 id
   have av1:=TVU.cell v1 id
   have HLU:=hide ((uH HLV).turn TVU)
   clear y0_0 y0_1 y0_2 y0_3 y0_4 y0_5 y0_6 y0_7 y0_8 y1_0 y1_1 v0 v1 v2 hvb
   have HS:=fun w' (T:Turn (Mine own τ) U w')=>And.intro T (And.intro (T.cell ay0_0 (hnm (uH htop _ (by dsimp only;omega)))) (And.intro (T.cell ay0_1 (hnm (uH htop _ (by dsimp only;omega)))) (And.intro (T.cell ay0_2 (hnm (uH htop _ (by dsimp only;omega)))) (And.intro (T.cell ay0_3 (hnm (uH htop _ (by dsimp only;omega)))) (And.intro (T.cell ay0_4 (hnm (uH htop _ (by dsimp only;omega)))) (And.intro (T.cell ay0_5 (hnm (uH htop _ (by dsimp only;omega)))) (And.intro (T.cell ay0_6 (hnm (uH htop _ (by dsimp only;omega)))) (And.intro (T.cell ay0_7 (hnm (uH htop _ (by dsimp only;omega)))) (And.intro (T.cell ay0_8 (hnm (uH htop _ (by dsimp only;omega)))) (And.intro (T.cell ay1_0 (hnm (uH htop _ (by dsimp only;omega)))) (And.intro (T.cell ay1_1 (hnm (uH htop _ (by dsimp only;omega)))) (T.cell av1 (hnm (uH htop _ (by dsimp only;omega)))))))))))))))
   go_region_held3 (fun w'=>Turn (Mine own τ) U w'∧w'.cell? ⟨w.heap.size,0,none⟩=some (.int .i64 2)∧w'.cell? ⟨w.heap.size,1,none⟩=some (.int .i64 frm)∧w'.cell? ⟨w.heap.size,2,none⟩=some (.int .i64 (n:Int))∧w'.cell? ⟨w.heap.size,3,none⟩=some (.string key)∧w'.cell? ⟨w.heap.size,4,none⟩=some (.int .i64 fser)∧w'.cell? ⟨w.heap.size,5,none⟩=some (.int .i64 ver)∧w'.cell? ⟨w.heap.size,6,none⟩=some (.int .i64 age)∧w'.cell? ⟨w.heap.size,7,none⟩=some (.int .i64 pres)∧w'.cell? ⟨w.heap.size,8,none⟩=some (.string val)∧w'.cell? ⟨w.heap.size+1,0,none⟩=some (.int .i64 (n:Int))∧w'.cell? ⟨w.heap.size+1,1,none⟩=some (.string key)∧w'.cell? ⟨w.heap.size+1+1,1,none⟩=some (.int .i64 fsent))
     ((go_split_ands;apply HS;first|exact TF|(repeat (first|(with_reducible first|assumption|exact Turn.refl _ _|apply Turn.sA|apply Turn.sD|refine tN ?_ (by assumption))|((with_reducible refine Turn.sS ?_ ?_);rotate_left;· first|exact Or.inr rfl|exact Or.inr (Or.inl rfl)|exact Or.inl (by simp <;> omega))|(with_reducible refine tG ?_ (by assumption))|(with_reducible first|apply There.drew|apply There.set|refine hNo ?_ (by assumption))|assumption))))
     (first
       | (go_at_call 127;go_split_ands;refine (uH KL _ ((uH HLU).turn (Turn.drew _ _))).mono ?_;rintro e w6 ⟨rfl,T6⟩)
       | (go_at_call 126;go_split_ands;refine (uH KN _ (((uH HLU).turn (Turn.drew _ _)).turn T6)).mono ?_;rintro e w7 ⟨rfl,own7,g7,L7,S7,GL7⟩;have TF:Turn (Mine own τ) U w7:=((Turn.drew _ _).sT (N:=nO) T6 (fun _ _ h=>False.elim h)).sT S7.turn (fun _ _ h=>h)))
   go_split_ands
   have q0:=TF.cell ay1_0 (hnm (uH htop _ (by dsimp only;omega)))
   have q1:=TF.cell ay1_1 (hnm (uH htop _ (by dsimp only;omega)))
   have HE7:=hide (And.intro L7 (And.intro ((Step.of_turn ((((T0.sT TV (fun _ _ h=>h)).sT TVU (fun _ _ h=>h)).sD).sT T6 (fun _ _ h=>h))).trans S7) GL7))
   clear L7 S7 GL7 TF HS
   go_wp2_with fail
   refine (uH KF own7 g7 _ (uH HE7).1).mono ?_
   rintro e w8 ⟨rfl,own8,g8,L8,S8,GL8⟩
   have HE:=hide (And.intro L8 (And.intro ((uH HE7).2.1.trans S8) ((uH HE7).2.2.trans GL8)))
   clear L8 S8 GL8
   go_wp2
   go_end0
   exact ⟨rfl,own8,g8,(uH HE).1,(uH HE).2.1,(uH HE).2.2⟩)
theorem answered_same (own:Own) (τ bt:Nat) (g:Gh) (s:PS) (m:Mes) (n:Nat) (w:World) (h:Lies own τ w bt g s) (hto:m.to=(n:Int)) (hn:n<6) (h2:m.key.size≤100) (f:Ft) (hf:s.Fine) (hft:aget s.fts (n,m.key)=some f) (hse:f.serial=m.serial) (hkd:m.kind=3) (htg:s.tag n m.key=m.ver) (base:Int) (hbase:base=m.age+elap s.c.drift (s.clk n - f.sent)) (hb0:0≤m.age) (hb1:m.age≤1000000) (hen:0<s.c.entries) (hul:(s.used n).length≤999) (hks:∀ k∈s.used n,k.size≤100)
    (e:Ent) (hfu:(s.learn n m base).Fine) (heu:(s.learn n m base).entry n m.key=some e) (hulu:((s.learn n m base).used n).length≤1000) (hftu:aget (s.learn n m base).fts (n,m.key)=some f) (hl1:(s.learn n m base).net.length+f.l.length<1000000000000) (hl2:(s.learn n m base).answers.length+f.l.length<1000000000000) :
    Calls Tryz.prog 111 #[.pointer (some ⟨bt,0,none⟩),mesV m] w fun r w'=>r= .returned (.tuple #[])∧∃ own' g',Lies own' τ w' bt g' ((s.learn n m base).finish n m.key e f.l)∧Step τ own own' w w'∧g.Like g':=by
 have hfm:=hf.fts _ (aget_mem hft)
 dsimp only at hfm
 have hel:=elap_le (drift:=s.c.drift) (d:=s.clk n - f.sent) (by omega) (by have:=(hf.ts g).c1 n;have:s.clk n≤1099511627776:=this;omega) (hf.ts g).d0 (hf.ts g).d1
 have hwr:IntKind.i64.wrap (m.age+elap s.c.drift (s.clk n - f.sent))=base:=by rw [IntKind.wrap_i64];omega
 have KT:=hide (fun w (h:Hid (Lies own τ w bt g s))=>tag_any own τ bt g s n m.key w h (by omega) h2)
 rw [htg] at KT
 have KL:Hid (∀ w,Lies own τ w bt g s→Calls Tryz.prog 127 #[.pointer (some ⟨bt,0,none⟩),.int .i64 (n:Int),.int .i64 f.sent] w fun r w'=>r= .returned (.int .i64 (elap s.c.drift (s.clk n - f.sent)))∧Turn nO w w'):=fun w h=>elapsed_any bt (s.ts g) n f.sent w h.tier (hf.ts g) hn (by omega) (by show f.sent≤s.clk n;omega)
 have KN:=hide (fun w (h:Lies own τ w bt g s)=>learn_any own τ bt g s n m base w h hf hn h2 hen hul hks)
 have KF:=hide (fun own g w (h:Lies own τ w bt g (s.learn n m base))=>finish_any own τ bt g (s.learn n m base) n m.key e f w h hfu hn h2 hulu heu hftu hl1 hl2)
 generalize s.learn n m base=s2 at *
 generalize elap s.c.drift (s.clk n - f.sent)=el at *
 obtain ⟨fa,fc,hfv⟩:=row_form (h.waits _ (aget_mem hft)).row
 obtain ⟨fser,fsent,fl,fv⟩:=f
 dsimp only at hfv hse KL KF ⊢
 generalize hfn:(fl.map wtL).length=fn at hfv
 subst hfv
 have HH:=hide h
 have htop:Hid (∀ k',w.heap.size≤k'→own k'=none):=h.top
 have d13:w.cell? ⟨bt,13,none⟩=some (.map (some g.bq)):=cOf h.tier.block 13
 have hbq:g.bq<w.heap.size:=h.fts.lt
 have HK:Hid (∀ w':World,w'.heap[g.bq]?=w.heap[g.bq]?→(Instr.lookup 74 (.map (some g.bq)) (.agg #[.int .i64 (n:Int),.string m.key]) true).run Tryz.prog w'= .ok (.tuple #[.agg #[.int .i64 fser,.int .i64 fsent,.slice fa fn fc],.bool true]) w'):=fun w' e=>by
   have:=ft_look (h.fts.heap e) (by omega:n<1000) h2
   rw [hft] at this
   exact this
 clear h hft hf hfm hel hbase hb0 hb1 hen hul hks hfu heu hulu hftu hl1 hl2
 obtain ⟨kind,frm,tto,key,serial,ver,age,pres,val⟩:=m
 dsimp only at *
 subst hto
 subst hse hkd
 simp only [mesV,mesL,placeV] at KN KF KT ⊢
 go_enter Tryz.func111,Tryz.ntmps111
 go_wp2
 generalize hW:World.alloc _ _=W0
 have T0:Turn nO w W0:=by rw [← hW];exact (Turn.alloc _ _ _).sA
 have hsz:W0.heap.size=w.heap.size+1+1:=by rw [← hW];simp
 have x0:∃ ty,W0.heap[w.heap.size]?=some (.cells #[.int .i64 3,.int .i64 frm,.int .i64 (n:Int),.string key,.int .i64 fser,.int .i64 ver,.int .i64 age,.int .i64 pres,.string val] ty (0,0)):=by rw [← hW];exact ⟨_,new2_0 _ _ _⟩
 obtain ⟨x0_0,x0_1,x0_2,x0_3,x0_4,x0_5,x0_6,x0_7,x0_8⟩:=eC9 x0
 have x1:∃ ty,W0.heap[w.heap.size+1]?=some (.cells #[.int .i64 (n:Int),.string key] ty (0,0)):=by rw [← hW];exact ⟨_,new2_1 _ _ _⟩
 obtain ⟨x1_0,x1_1⟩:=eC2 x1
 have c13:=T0.cell d13 id
 have HL:=hide ((uH HH).turn T0)
 clear hW d13
 have HS:=fun w' (T:Turn nO W0 w')=>And.intro T (And.intro (T.cell c13 id) (And.intro (T.cell x1_0 id) (And.intro (T.cell x1_1 id) ((show (Instr.lookup 74 (.map (some g.bq)) (.agg #[.int .i64 (n:Int),.string key]) true).run Tryz.prog w'= .ok (.tuple #[.agg #[.int .i64 fser,.int .i64 fsent,.slice fa fn fc],.bool true]) w' from (uH HK _ ((T.block _ (by omega) id).trans (T0.block _ hbq id))))))))
 go_region_held3 (fun w'=>Turn nO W0 w'∧w'.cell? ⟨bt,13,none⟩=some (.map (some g.bq))∧w'.cell? ⟨w.heap.size+1,0,none⟩=some (.int .i64 (n:Int))∧w'.cell? ⟨w.heap.size+1,1,none⟩=some (.string key)∧((Instr.lookup 74 (.map (some g.bq)) (.agg #[.int .i64 (n:Int),.string key]) true).run Tryz.prog w'= .ok (.tuple #[.agg #[.int .i64 fser,.int .i64 fsent,.slice fa fn fc],.bool true]) w')) ((go_split_ands;apply HS;all_goals (repeat (first|(with_reducible first|assumption|exact Turn.refl _ _|apply Turn.sA|apply Turn.sD|refine tN ?_ (by assumption))|((with_reducible refine Turn.sS ?_ ?_);rotate_left;· first|exact Or.inr rfl|exact Or.inr (Or.inl rfl)|exact Or.inl (by simp <;> omega))|(with_reducible refine tG ?_ (by assumption))|(with_reducible first|apply There.drew|apply There.set|refine hNo ?_ (by assumption))|assumption)))) (fail)
 all_goals go_split_ands
 all_goals clear HS
 all_goals (
   generalize hV:World.drew _=V
   have TV:Turn nO W0 V:=by rw [← hV];exact (Turn.alloc _ _ _).sD
   have hvb:V.heap[w.heap.size+1+1]?=some (.cells #[.int .i64 fser,.int .i64 fsent,.slice fa fn fc] 154 (0,0)):=by rw [← hV,← hsz];exact new1_0 W0 _
   clear hV
   have v0:=cOf hvb 0
   have v1:=cOf hvb 1
   have v2:=cOf hvb 2
   have HLV:=hide ((uH HL).turn TV)
   have y0_0:=TV.cell x0_0 id
   have y0_1:=TV.cell x0_1 id
   have y0_2:=TV.cell x0_2 id
   have y0_3:=TV.cell x0_3 id
   have y0_4:=TV.cell x0_4 id
   have y0_5:=TV.cell x0_5 id
   have y0_6:=TV.cell x0_6 id
   have y0_7:=TV.cell x0_7 id
   have y0_8:=TV.cell x0_8 id
   have y1_0:=TV.cell x1_0 id
   have y1_1:=TV.cell x1_1 id
   go_wp2
   have HS:=fun w' (T:Turn nO V w')=>And.intro T (And.intro (T.cell y0_0 id) (And.intro (T.cell y0_5 id) (And.intro (T.cell y1_0 id) (And.intro (T.cell y1_1 id) ((show Hid (Lies own τ w' bt g s) from ((uH HLV).turn T)))))))
   go_region_held3 (fun w'=>Turn nO V w'∧w'.cell? ⟨w.heap.size,0,none⟩=some (.int .i64 3)∧w'.cell? ⟨w.heap.size,5,none⟩=some (.int .i64 ver)∧w'.cell? ⟨w.heap.size+1,0,none⟩=some (.int .i64 (n:Int))∧w'.cell? ⟨w.heap.size+1,1,none⟩=some (.string key)∧(Hid (Lies own τ w' bt g s))) ((go_split_ands;apply HS;all_goals (repeat (first|(with_reducible first|assumption|exact Turn.refl _ _|apply Turn.sA|apply Turn.sD|refine tN ?_ (by assumption))|((with_reducible refine Turn.sS ?_ ?_);rotate_left;· first|exact Or.inr rfl|exact Or.inr (Or.inl rfl)|exact Or.inl (by simp <;> omega))|(with_reducible refine tG ?_ (by assumption))|(with_reducible first|apply There.drew|apply There.set|refine hNo ?_ (by assumption))|assumption)))) (first|(go_at_call 124;go_split_ands;refine (uH KT _ (by assumption)).mono ?_;rintro e w4 ⟨rfl,T4⟩))
   go_split_ands
   clear HS
   have TVU:Turn nO V w4:=by assumption
   go_wp2
   generalize w4=U at TVU ⊢
   have hnm:∀ {b:Nat},own b=none→¬ Mine own τ b:=fun hb ⟨y,hy⟩=>by rw [hb] at hy;cases hy
   have ay0_0:=TVU.cell y0_0 id
   have ay0_1:=TVU.cell y0_1 id
   have ay0_2:=TVU.cell y0_2 id
   have ay0_3:=TVU.cell y0_3 id
   have ay0_4:=TVU.cell y0_4 id
   have ay0_5:=TVU.cell y0_5 id
   have ay0_6:=TVU.cell y0_6 id
   have ay0_7:=TVU.cell y0_7 id
   have ay0_8:=TVU.cell y0_8 id
   have ay1_0:=TVU.cell y1_0 id
   have ay1_1:=TVU.cell y1_1 id
   have av1:=TVU.cell v1 id
   have HLU:=hide ((uH HLV).turn TVU)
   clear y0_0 y0_1 y0_2 y0_3 y0_4 y0_5 y0_6 y0_7 y0_8 y1_0 y1_1 v0 v1 v2 hvb
   have HS:=fun w' (T:Turn (Mine own τ) U w')=>And.intro T (And.intro (T.cell ay0_0 (hnm (uH htop _ (by dsimp only;omega)))) (And.intro (T.cell ay0_1 (hnm (uH htop _ (by dsimp only;omega)))) (And.intro (T.cell ay0_2 (hnm (uH htop _ (by dsimp only;omega)))) (And.intro (T.cell ay0_3 (hnm (uH htop _ (by dsimp only;omega)))) (And.intro (T.cell ay0_4 (hnm (uH htop _ (by dsimp only;omega)))) (And.intro (T.cell ay0_5 (hnm (uH htop _ (by dsimp only;omega)))) (And.intro (T.cell ay0_6 (hnm (uH htop _ (by dsimp only;omega)))) (And.intro (T.cell ay0_7 (hnm (uH htop _ (by dsimp only;omega)))) (And.intro (T.cell ay0_8 (hnm (uH htop _ (by dsimp only;omega)))) (And.intro (T.cell ay1_0 (hnm (uH htop _ (by dsimp only;omega)))) (And.intro (T.cell ay1_1 (hnm (uH htop _ (by dsimp only;omega)))) (T.cell av1 (hnm (uH htop _ (by dsimp only;omega)))))))))))))))
   go_region_held3 (fun w'=>Turn (Mine own τ) U w'∧w'.cell? ⟨w.heap.size,0,none⟩=some (.int .i64 3)∧w'.cell? ⟨w.heap.size,1,none⟩=some (.int .i64 frm)∧w'.cell? ⟨w.heap.size,2,none⟩=some (.int .i64 (n:Int))∧w'.cell? ⟨w.heap.size,3,none⟩=some (.string key)∧w'.cell? ⟨w.heap.size,4,none⟩=some (.int .i64 fser)∧w'.cell? ⟨w.heap.size,5,none⟩=some (.int .i64 ver)∧w'.cell? ⟨w.heap.size,6,none⟩=some (.int .i64 age)∧w'.cell? ⟨w.heap.size,7,none⟩=some (.int .i64 pres)∧w'.cell? ⟨w.heap.size,8,none⟩=some (.string val)∧w'.cell? ⟨w.heap.size+1,0,none⟩=some (.int .i64 (n:Int))∧w'.cell? ⟨w.heap.size+1,1,none⟩=some (.string key)∧w'.cell? ⟨w.heap.size+1+1,1,none⟩=some (.int .i64 fsent))
     ((go_split_ands;apply HS;first|exact TF|(repeat (first|(with_reducible first|assumption|exact Turn.refl _ _|apply Turn.sA|apply Turn.sD|refine tN ?_ (by assumption))|((with_reducible refine Turn.sS ?_ ?_);rotate_left;· first|exact Or.inr rfl|exact Or.inr (Or.inl rfl)|exact Or.inl (by simp <;> omega))|(with_reducible refine tG ?_ (by assumption))|(with_reducible first|apply There.drew|apply There.set|refine hNo ?_ (by assumption))|assumption))))
     (first
       | (go_at_call 127;go_split_ands;refine (uH KL _ ((uH HLU).turn (Turn.drew _ _))).mono ?_;rintro e w6 ⟨rfl,T6⟩)
       | (go_at_call 126;go_split_ands;refine (uH KN _ (((uH HLU).turn (Turn.drew _ _)).turn T6)).mono ?_;rintro e w7 ⟨rfl,own7,g7,L7,S7,GL7⟩;have TF:Turn (Mine own τ) U w7:=((Turn.drew _ _).sT (N:=nO) T6 (fun _ _ h=>False.elim h)).sT S7.turn (fun _ _ h=>h)))
   go_split_ands
   have q0:=TF.cell ay1_0 (hnm (uH htop _ (by dsimp only;omega)))
   have q1:=TF.cell ay1_1 (hnm (uH htop _ (by dsimp only;omega)))
   have HE7:=hide (And.intro L7 (And.intro ((Step.of_turn ((((T0.sT TV (fun _ _ h=>h)).sT TVU (fun _ _ h=>h)).sD).sT T6 (fun _ _ h=>h))).trans S7) GL7))
   clear L7 S7 GL7 TF HS
   go_wp2_with fail
   refine (uH KF own7 g7 _ (uH HE7).1).mono ?_
   rintro e w8 ⟨rfl,own8,g8,L8,S8,GL8⟩
   have HE:=hide (And.intro L8 (And.intro ((uH HE7).2.1.trans S8) ((uH HE7).2.2.trans GL8)))
   clear L8 S8 GL8
   go_wp2
   go_end0
   exact ⟨rfl,own8,g8,(uH HE).1,(uH HE).2.1,(uH HE).2.2⟩)
end
section
open Go.RowKit
open Tier (Mes Ans Conf)
theorem answered_any (own:Own) (τ bt:Nat) (g:Gh) (s:PS) (m:Mes) (n b:Nat) (w:World) (h:Lies own τ w bt g s) (hs:s.Sane) (hb:s.Few b) (hbl:b+10≤1000000000000) (hto:m.to=(n:Int)) (hm:MesOK s.c m) (hk:m.kind≠1) :
    Calls Tryz.prog 111 #[.pointer (some ⟨bt,0,none⟩),mesV m] w fun r w'=>r= .returned (.tuple #[])∧∃ own' g',Lies own' τ w' bt g' (s.answered n m)∧Step τ own own' w w'∧g.Like g':=by
 have hf:=hs.fine hb (by omega)
 have hlen:=hs.len
 have hto1:=hm.to1
 have hnl:n<s.c.parents.length:=by omega
 have hn:n<6:=by omega
 have hk4:=hm.key
 have fin:∀ {r:Ending} {w':World},r= .returned (.tuple #[])∧Lies own τ w' bt g s∧Step τ own own w w'→r= .returned (.tuple #[])∧∃ own' g',Lies own' τ w' bt g' s∧Step τ own own' w w'∧g.Like g':=fun ⟨a,b,c⟩=>⟨a,own,g,b,c,Gh.Like.refl g⟩
 have hse:=hb.serial
 have hne:=hb.net
 have han:=hb.answers
 unfold PS.answered
 cases hft:aget s.fts (n,m.key) with
 | none=>exact (answered_none own τ bt g s m n w h hto hn (by omega) hft).mono (fun _ _=>fin)
 | some f =>
   have hwl:=hs.wl (aget_mem hft)
   dsimp only at hwl ⊢
   by_cases h1:f.serial=m.serial
   ·rw [if_neg (fun e=>e h1)]
    by_cases h2:m.kind=4
    ·rw [if_pos h2]
     exact answered_refuse own τ bt g s m n w h hto hn (by omega) f hf hft h1 h2 (by omega) (by omega)
    ·rw [if_neg h2]
     have hused:∀ k∈s.used n,k.size≤100:=fun k hk=>by have:=(hs.used n).2 k hk;omega
     have hul:(s.used n).length≤4:=by have:=(hs.used n).1;have:=hs.entries;omega
     have hent:0<s.c.entries:=by have:=hs.entries;omega
     have hbo:=base_ok hs hft ⟨hm.age0,hm.age1⟩
     have hfew:=hb.learn n m (m.age+elap s.c.drift (s.clk n - f.sent))
     have hsl:=hs.learn (m:=m) hnl hk4 (hm.ver hk) hbo
     have hkp:=s.keeps_learn n m (m.age+elap s.c.drift (s.clk n - f.sent))
     obtain ⟨e,he⟩:=s.entry_learn n m (m.age+elap s.c.drift (s.clk n - f.sent))
     have hul2:((s.learn n m (m.age+elap s.c.drift (s.clk n - f.sent))).used n).length≤1000:=by have:=(hsl.used n).1;have:=hsl.entries;omega
     by_cases h3:m.kind=3
     ·by_cases h4:s.tag n m.key=m.ver
      ·rw [if_neg (fun e=>e.2 h4),he]
       exact answered_same own τ bt g s m n w h hto hn (by omega) f hf hft h1 h3 h4 _ rfl hm.age0 hm.age1 hent (by omega) hused e (hsl.fine hfew (by omega)) he hul2 (by rw [hkp.fts];exact hft) (by rw [hkp.net];omega) (by rw [hkp.answers];omega)
      ·rw [if_pos ⟨h3,h4⟩]
       exact answered_again own τ bt g s m n w h hto hn (by omega) f hf hft h1 h3 h4 (by omega) (by omega) hnl
     ·rw [if_neg (fun e=>h3 e.1),he]
      have h5:m.kind=2:=by have:=hm.kinds;omega
      exact answered_full own τ bt g s m n w h hto hn (by omega) f hf hft h1 h5 _ rfl hm.age0 hm.age1 hent (by omega) hused e (hsl.fine hfew (by omega)) he hul2 (by rw [hkp.fts];exact hft) (by rw [hkp.net];omega) (by rw [hkp.answers];omega)
   ·rw [if_pos h1]
    exact (answered_other own τ bt g s m n w h hto hn (by omega) f hft h1).mono (fun _ _=>fin)
end
section
open Go.RowKit
open Tier (Mes Ans Conf)
attribute [local go_sem ↓] Go.wp_at_zero Go.wp_at_succ
theorem arrive_answer (own:Own) (τ bt:Nat) (g:Gh) (s s':PS) (m:Mes) (w:World) (h:Lies own τ w bt g s) (hk:¬ m.kind=1)
    (KA:∀ w,Lies own τ w bt g s→Calls Tryz.prog 111 #[.pointer (some ⟨bt,0,none⟩),mesV m] w fun r w'=>r= .returned (.tuple #[])∧∃ own' g',Lies own' τ w' bt g' s'∧Step τ own own' w w'∧g.Like g') :
    Calls Tryz.prog 79 #[.pointer (some ⟨bt,0,none⟩),mesV m] w fun r w'=>r= .returned (.tuple #[])∧∃ own' g',Lies own' τ w' bt g' s'∧Step τ own own' w w'∧g.Like g':=by
 have HH:=hide h
 have KA:=hide KA
 obtain ⟨kind,frm,tto,key,serial,ver,age,pres,val⟩:=m
 dsimp only at hk
 simp only [mesV,mesL] at KA ⊢
 clear h
 go_enter Tryz.func79,Tryz.ntmps79
 go_wp2_with fail
 generalize hW:World.alloc _ _=W0
 have T0:Turn nO w W0:=by rw [← hW];exact Turn.alloc _ _ _
 clear hW
 refine (uH KA W0 ((uH HH).turn T0)).mono ?_
 rintro e w1 ⟨rfl,own1,g1,L1,S1,GL1⟩
 have HE:=hide (And.intro L1 (And.intro ((Step.of_turn T0).trans S1) GL1))
 clear L1 S1 GL1
 go_wp2
 go_end0
 exact ⟨rfl,own1,g1,(uH HE).1,(uH HE).2.1,(uH HE).2.2⟩
theorem arrive_origin (own:Own) (τ bt:Nat) (g:Gh) (s s':PS) (m:Mes) (w:World) (h:Lies own τ w bt g s) (hk:m.kind=1) (ht:m.to=0)
    (KA:∀ w,Lies own τ w bt g s→Calls Tryz.prog 112 #[.pointer (some ⟨bt,0,none⟩),mesV m] w fun r w'=>r= .returned (.tuple #[])∧∃ own' g',Lies own' τ w' bt g' s'∧Step τ own own' w w'∧g.Like g') :
    Calls Tryz.prog 79 #[.pointer (some ⟨bt,0,none⟩),mesV m] w fun r w'=>r= .returned (.tuple #[])∧∃ own' g',Lies own' τ w' bt g' s'∧Step τ own own' w w'∧g.Like g':=by
 have HH:=hide h
 have KA:=hide KA
 obtain ⟨kind,frm,tto,key,serial,ver,age,pres,val⟩:=m
 dsimp only at hk ht
 subst hk ht
 simp only [mesV,mesL] at KA ⊢
 clear h
 go_enter Tryz.func79,Tryz.ntmps79
 go_wp2_with fail
 generalize hW:World.alloc _ _=W0
 have T0:Turn nO w W0:=by rw [← hW];exact Turn.alloc _ _ _
 clear hW
 refine (uH KA W0 ((uH HH).turn T0)).mono ?_
 rintro e w1 ⟨rfl,own1,g1,L1,S1,GL1⟩
 have HE:=hide (And.intro L1 (And.intro ((Step.of_turn T0).trans S1) GL1))
 clear L1 S1 GL1
 go_wp2
 go_end0
 exact ⟨rfl,own1,g1,(uH HE).1,(uH HE).2.1,(uH HE).2.2⟩
theorem arrive_cache (own:Own) (τ bt:Nat) (g:Gh) (s:PS) (P:PS→Prop) (m:Mes) (n:Nat) (w:World) (h:Lies own τ w bt g s) (hk:m.kind=1) (ht:m.to=(n:Int)) (hn:0<n)
    (KA:∀ w,Lies own τ w bt g s→Calls Tryz.prog 76 #[.pointer (some ⟨bt,0,none⟩),placeV (n,m.key),wtV (childOf m)] w fun r w'=>r= .returned (.tuple #[])∧∃ own' g' s',P s'∧Lies own' τ w' bt g' s'∧Step τ own own' w w'∧g.Like g') :
    Calls Tryz.prog 79 #[.pointer (some ⟨bt,0,none⟩),mesV m] w fun r w'=>r= .returned (.tuple #[])∧∃ own' g' s',P s'∧Lies own' τ w' bt g' s'∧Step τ own own' w w'∧g.Like g':=by
 have HH:=hide h
 have htop:Hid (∀ k',w.heap.size≤k'→own k'=none):=h.top
 have KA:=hide KA
 have KC:=hide (fun w=>child_any m w)
 obtain ⟨kind,frm,tto,key,serial,ver,age,pres,val⟩:=m
 dsimp only at hk ht
 subst hk ht
 have hne:¬ (n:Int)=0:=by omega
 simp only [mesV,mesL,placeV,wtV,childOf] at KA KC ⊢
 clear h
 go_enter Tryz.func79,Tryz.ntmps79
 go_wp2
 generalize hW:World.alloc _ _=W0
 have T0:Turn nO w W0:=by rw [← hW];exact (Turn.alloc _ _ _)
 have hsz:W0.heap.size=w.heap.size+1:=by rw [← hW];simp
 have x0:∃ ty,W0.heap[w.heap.size]?=some (.cells #[.int .i64 1,.int .i64 frm,.int .i64 (n:Int),.string key,.int .i64 serial,.int .i64 ver,.int .i64 age,.int .i64 pres,.string val] ty (0,0)):=by rw [← hW];exact ⟨_,new1_0 _ _⟩
 obtain ⟨x0_0,x0_1,x0_2,x0_3,x0_4,x0_5,x0_6,x0_7,x0_8⟩:=eC9 x0
 have HL:=hide ((uH HH).turn T0)
 clear hW
 have hno:own w.heap.size=none:=uH htop _ (Nat.le_refl _)
 have hnm:¬ Mine own τ w.heap.size:=fun ⟨y,hy⟩=>by rw [hno] at hy;cases hy
 have HS:=fun w' (T:Turn (Mine own τ) W0 w')=>And.intro T (And.intro (T.cell x0_0 (hnm)) (And.intro (T.cell x0_1 (hnm)) (And.intro (T.cell x0_2 (hnm)) (And.intro (T.cell x0_3 (hnm)) (And.intro (T.cell x0_4 (hnm)) (And.intro (T.cell x0_5 (hnm)) (And.intro (T.cell x0_6 (hnm)) (And.intro (T.cell x0_7 (hnm)) (T.cell x0_8 (hnm))))))))))
 go_region_held3 (fun w'=>Turn (Mine own τ) W0 w'∧w'.cell? ⟨w.heap.size,0,none⟩=some (.int .i64 1)∧w'.cell? ⟨w.heap.size,1,none⟩=some (.int .i64 frm)∧w'.cell? ⟨w.heap.size,2,none⟩=some (.int .i64 (n:Int))∧w'.cell? ⟨w.heap.size,3,none⟩=some (.string key)∧w'.cell? ⟨w.heap.size,4,none⟩=some (.int .i64 serial)∧w'.cell? ⟨w.heap.size,5,none⟩=some (.int .i64 ver)∧w'.cell? ⟨w.heap.size,6,none⟩=some (.int .i64 age)∧w'.cell? ⟨w.heap.size,7,none⟩=some (.int .i64 pres)∧w'.cell? ⟨w.heap.size,8,none⟩=some (.string val)) ((go_split_ands;apply HS;all_goals (repeat (first|(with_reducible first|assumption|exact Turn.refl _ _|apply Turn.sA|apply Turn.sD|refine tN ?_ (by assumption))|((with_reducible refine Turn.sS ?_ ?_);rotate_left;· first|exact Or.inr rfl|exact Or.inr (Or.inl rfl)|exact Or.inl (by simp <;> omega))|(with_reducible refine tG ?_ (by assumption))|(with_reducible first|apply There.drew|apply There.set|refine hNo ?_ (by assumption))|assumption)))) (first|(go_at_call 113;go_split_ands;refine (uH KC _).mono ?_;rintro e w7 ⟨rfl,T7⟩)|(go_at_call 76;go_split_ands;refine (uH KA _ (((uH HL).turn (Turn.drew _ _)).turn T7)).mono ?_;rintro e w8 ⟨rfl,own8,g8,s8,P8,L8,S8,GL8⟩;have TF:Turn (Mine own τ) W0 w8:=((Turn.drew _ _).sT (N:=nO) T7 (fun _ _ h=>False.elim h)).sT S8.turn (fun _ _ h=>h)))
 go_split_ands
 have HE:=hide (And.intro P8 (And.intro L8 (And.intro ((Step.of_turn ((T0.sD).sT T7 (fun _ _ h=>h))).trans S8) GL8)))
 clear L8 S8 GL8 TF HS
 go_wp2
 go_end0
 exact ⟨rfl,own8,g8,s8,(uH HE).1,(uH HE).2.1,(uH HE).2.2.1,(uH HE).2.2.2⟩
theorem arrive_any (own:Own) (τ bt:Nat) (g:Gh) (s:PS) (m:Mes) (b:Nat) (w:World) (h:Lies own τ w bt g s) (hs:s.Sane) (hb:s.Few b) (hbl:b+10≤1000000000000) (hm:MesOK s.c m) :
    Calls Tryz.prog 79 #[.pointer (some ⟨bt,0,none⟩),mesV m] w fun r w'=>r= .returned (.tuple #[])∧∃ own' g' v,Lies own' τ w' bt g' (s.arrive m v)∧Step τ own own' w w'∧g.Like g':=by
 have h0:=hm.to0
 have h1:=hm.to1
 have hlen:=hs.len
 have hse:=hb.serial
 have hne:=hb.net
 have han:=hb.answers
 have hk4:=hm.key
 by_cases hk:m.kind=1
 ·by_cases ht:m.to=0
  ·refine (arrive_origin own τ bt g s (s.askedOrigin m) m w h hk ht (fun w h=>askedOrigin_any own τ bt g s m w h (by unfold maxLen;omega) (by omega) (by omega))).mono ?_
   rintro r w' ⟨rfl,own',g',L,S,GL⟩
   exact ⟨rfl,own',g',.bool true,by unfold PS.arrive;rw [if_neg (fun e=>e hk),if_pos ht];exact L,S,GL⟩
  ·have hul:(s.used m.to.toNat).length≤1000:=by have:=(hs.used m.to.toNat).1;have:=hs.entries;omega
   refine (arrive_cache own τ bt g s (fun s'=>∃ v,s'=s.asked m.to.toNat m.key (childOf m) v) m m.to.toNat w h hk (by omega) (by omega) (fun w h=>?_)).mono ?_
   ·refine (asked_any own τ bt g s m.to.toNat m.key (childOf m) w h (hs.fine hb (by omega)) (by omega) (by omega) hul (by omega) (by omega) (by omega) (by omega)).mono ?_
    rintro r w' ⟨rfl,own',g',v,L,S,GL⟩
    exact ⟨rfl,own',g',_,⟨v,rfl⟩,L,S,GL⟩
   ·rintro r w' ⟨rfl,own',g',s',⟨v,rfl⟩,L,S,GL⟩
    exact ⟨rfl,own',g',v,by unfold PS.arrive;rw [if_neg (fun e=>e hk),if_neg ht];exact L,S,GL⟩
 ·refine (arrive_answer own τ bt g s (s.answered m.to.toNat m) m w h hk (fun w h=>answered_any own τ bt g s m m.to.toNat b w h hs hb hbl (by omega) hm hk)).mono ?_
  rintro r w' ⟨rfl,own',g',L,S,GL⟩
  exact ⟨rfl,own',g',.bool true,by unfold PS.arrive;rw [if_pos hk];exact L,S,GL⟩
theorem PS.Sane.taken {s:PS} (h:s.Sane) (i:Nat):(s.taken i).Sane :=
  h.talk rfl rfl rfl rfl rfl rfl rfl (fun m hm=>by
    have hm:m∈s.net.take i ++ s.net.drop (i+1):=hm
    rcases List.mem_append.1 hm with e|e
    ·exact h.net m (List.mem_of_mem_take e)
    ·exact h.net m (List.mem_of_mem_drop e))
theorem PS.Few.taken {s:PS} {b:Nat} (h:s.Few b) (i:Nat):(s.taken i).Few b :=
  ⟨h.found,h.fts,h.serial,by show (s.net.take i ++ s.net.drop (i+1)).length≤b;have:=h.net;simp;omega,h.answers⟩
theorem Deliver_place (own:Own) (τ bt:Nat) (g:Gh) (s:PS) (i:Int) (w:World) (h:Lies own τ w bt g s) (hp:s.net.length≤1000000000000) (hi:Nums.inB i 0 ((s.net.length:Int) - 1)=false) :
    Calls Tryz.prog 45 #[.pointer (some ⟨bt,0,none⟩),.int .i64 i] w fun r w'=>r= .returned (.int .i64 6)∧w'=w:=by
 have KC:=hide (isSent_any own τ bt g s i w h hp)
 rw [hi] at KC
 clear h hi hp
 go_enter Tryz.func45,Tryz.ntmps45
 go_wp2_with fail
 refine (uH KC).mono ?_
 rintro e w1 ⟨rfl,rfl⟩
 go_wp2
 go_ret
 exact ⟨rfl,rfl⟩
theorem Deliver_ok (own:Own) (τ bt:Nat) (g:Gh) (s:PS) (i b:Nat) (m:Mes) (w:World) (h:Lies own τ w bt g s) (hs:s.Sane) (hb:s.Few b) (hbl:b+10≤1000000000000) (hi:s.net[i]?=some m) :
    Calls Tryz.prog 45 #[.pointer (some ⟨bt,0,none⟩),.int .i64 (i:Int)] w fun r w'=>r= .returned (.int .i64 0)∧∃ own' g' v,Lies own' τ w' bt g' ((s.taken i).arrive m v)∧Step τ own own' w w'∧g.Like g':=by
 have hlen:i<s.net.length:=(List.getElem?_eq_some_iff.1 hi).1
 have hnl:=hb.net
 have KC:=hide (isSent_any own τ bt g s i w h (by omega))
 rw [show Nums.inB (i:Int) 0 ((s.net.length:Int) - 1)=true from (Nums.inB_iff ..).2 (by omega)] at KC
 have KT:=hide (take_any own τ bt g s i m w h (by omega) hi)
 have KA:=hide (fun g w (h:Lies own τ w bt g (s.taken i))=>arrive_any own τ bt g (s.taken i) m b w h (hs.taken i) (hb.taken i) hbl (hs.net m (List.mem_of_getElem? hi)))
 simp only [mesV,mesL] at KT KA
 clear h hs hb hi hlen hnl hbl
 go_enter Tryz.func45,Tryz.ntmps45
 go_wp2_with fail
 refine (uH KC).mono ?_
 rintro e w1 ⟨rfl,rfl⟩
 go_wp2_with fail
 refine (uH KT).mono ?_
 rintro e w2 ⟨rfl,g2,L2,S2,GL2⟩
 go_wp2_with fail
 refine (uH KA g2 _ L2).mono ?_
 rintro e w3 ⟨rfl,own3,g3,v3,L3,S3,GL3⟩
 have HE:=hide (And.intro L3 (And.intro (S2.trans S3) (GL2.trans GL3)))
 clear L2 S2 GL2 L3 S3 GL3
 go_wp2
 go_ret
 exact ⟨rfl,own3,g3,v3,(uH HE).1,(uH HE).2.1,(uH HE).2.2⟩
theorem Lose_place (own:Own) (τ bt:Nat) (g:Gh) (s:PS) (i:Int) (w:World) (h:Lies own τ w bt g s) (hp:s.net.length≤1000000000000) (hi:Nums.inB i 0 ((s.net.length:Int) - 1)=false) :
    Calls Tryz.prog 47 #[.pointer (some ⟨bt,0,none⟩),.int .i64 i] w fun r w'=>r= .returned (.int .i64 6)∧w'=w:=by
 have KC:=hide (isSent_any own τ bt g s i w h hp)
 rw [hi] at KC
 clear h hi hp
 go_enter Tryz.func47,Tryz.ntmps47
 go_wp2_with fail
 refine (uH KC).mono ?_
 rintro e w1 ⟨rfl,rfl⟩
 go_wp2
 go_ret
 exact ⟨rfl,rfl⟩
theorem Lose_ok (own:Own) (τ bt:Nat) (g:Gh) (s:PS) (i:Nat) (m:Mes) (w:World) (h:Lies own τ w bt g s) (hp:s.net.length≤1000000000000) (hi:s.net[i]?=some m) :
    Calls Tryz.prog 47 #[.pointer (some ⟨bt,0,none⟩),.int .i64 (i:Int)] w fun r w'=>r= .returned (.int .i64 0)∧∃ g',Lies own τ w' bt g' (s.taken i)∧Step τ own own w w'∧g.Like g':=by
 have hlen:i<s.net.length:=(List.getElem?_eq_some_iff.1 hi).1
 have KC:=hide (isSent_any own τ bt g s i w h hp)
 rw [show Nums.inB (i:Int) 0 ((s.net.length:Int) - 1)=true from (Nums.inB_iff ..).2 (by omega)] at KC
 have KT:=hide (take_any own τ bt g s i m w h hp hi)
 simp only [mesV,mesL] at KT
 clear h hi hlen hp
 go_enter Tryz.func47,Tryz.ntmps47
 go_wp2_with fail
 refine (uH KC).mono ?_
 rintro e w1 ⟨rfl,rfl⟩
 go_wp2_with fail
 refine (uH KT).mono ?_
 rintro e w2 ⟨rfl,g2,L2,S2,GL2⟩
 have HE:=hide (And.intro L2 (And.intro S2 GL2))
 clear L2 S2 GL2
 go_wp2
 go_ret
 exact ⟨rfl,g2,(uH HE).1,(uH HE).2.1,(uH HE).2.2⟩
theorem Double_place (own:Own) (τ bt:Nat) (g:Gh) (s:PS) (i:Int) (w:World) (h:Lies own τ w bt g s) (hp:s.net.length≤1000000000000) (hi:Nums.inB i 0 ((s.net.length:Int) - 1)=false) :
    Calls Tryz.prog 49 #[.pointer (some ⟨bt,0,none⟩),.int .i64 i] w fun r w'=>r= .returned (.int .i64 6)∧w'=w:=by
 have KC:=hide (isSent_any own τ bt g s i w h hp)
 rw [hi] at KC
 clear h hi hp
 go_enter Tryz.func49,Tryz.ntmps49
 go_wp2_with fail
 refine (uH KC).mono ?_
 rintro e w1 ⟨rfl,rfl⟩
 go_wp2
 go_ret
 exact ⟨rfl,rfl⟩
theorem Double_full (own:Own) (τ bt:Nat) (g:Gh) (s:PS) (i:Nat) (w:World) (h:Lies own τ w bt g s) (hp:s.net.length≤1000000000000) (hi:i<s.net.length) (hfull:64≤s.net.length) :
    Calls Tryz.prog 49 #[.pointer (some ⟨bt,0,none⟩),.int .i64 (i:Int)] w fun r w'=>r= .returned (.int .i64 7)∧w'=w:=by
 have KC:=hide (isSent_any own τ bt g s i w h hp)
 rw [show Nums.inB (i:Int) 0 ((s.net.length:Int) - 1)=true from (Nums.inB_iff ..).2 (by omega)] at KC
 obtain ⟨a,c,hv⟩:=row_form h.net.row
 rw [List.length_map] at hv
 have d15:w.cell? ⟨bt,15,none⟩=some (.slice a s.net.length c):=by rw [← hv];exact cOf h.tier.block 15
 have hge:(64:Int)≤(s.net.length:Int):=by omega
 clear h hi hp hv hfull
 generalize s.net.length=m at *
 go_enter Tryz.func49,Tryz.ntmps49
 go_wp2_with fail
 refine (uH KC).mono ?_
 rintro e w1 ⟨rfl,rfl⟩
 go_wp2
 go_ret
 exact ⟨rfl,rfl⟩
end
section
open Tier (Mes Ans Conf)
theorem PS.Sane.doubled {s:PS} (h:s.Sane) {m:Mes} (hm:m∈s.net):PS.Sane { s with net:=s.net ++ [m] } :=
  h.talk rfl rfl rfl rfl rfl rfl rfl (fun x hx=>(mem_snoc hx).elim (h.net x) (fun e=>e ▸ h.net m hm))
theorem PS.Few.doubled {s:PS} {b:Nat} (h:s.Few b) (m:Mes):PS.Few { s with net:=s.net ++ [m] } (b+1) :=
  ⟨Nat.le_trans h.found (by omega),Nat.le_trans h.fts (by omega),by have:=h.serial;show s.serial≤_;omega,by have:=h.net;simp;omega,Nat.le_trans h.answers (by omega)⟩
theorem PS.Sane.told {s:PS} (h:s.Sane):PS.Sane { s with answers:=[] }:=h.talk rfl rfl rfl rfl rfl rfl rfl h.net
theorem PS.Few.told {s:PS} {b:Nat} (h:s.Few b):PS.Few { s with answers:=[] } b:=⟨h.found,h.fts,h.serial,h.net,Nat.zero_le _⟩
def PS.tick (s:PS) (n:Nat) (c:Int):PS:={ s with clk:=fun m=>if m=n then c else s.clk m }
theorem PS.Sane.tick {s:PS} (h:s.Sane) {n:Nat} {c:Int} (h0:s.clk n≤c) (h1:c≤1099511627776):(s.tick n c).Sane:=by
  have hk:∀ m,s.clk m≤(s.tick n c).clk m∧(s.tick n c).clk m≤1099511627776:=fun m=>by
    show s.clk m≤(if m=n then c else s.clk m)∧(if m=n then c else s.clk m)≤_
    split
    ·next e=>rw [e];exact ⟨h0,h1⟩
    ·exact ⟨Int.le_refl _,(h.clk m).2⟩
  refine ⟨h.drift,fun m=>⟨Int.le_trans (h.clk m).1 (hk m).1,(hk m).2⟩,h.budget,h.entries,h.waiters,h.len,h.up,fun p hp=>?_,fun p hp=>?_,h.apart,h.keys,h.wait,h.serial,h.used,h.net,h.recs⟩
  ·obtain ⟨a,b,c',d⟩:=h.ents p hp
   exact ⟨⟨a.b0,a.b1,a.s0,Int.le_trans a.s1 (hk _).1,(hk _).2⟩,b,c',d⟩
  ·obtain ⟨a,b,c',d,e,f,g⟩:=h.fts p hp
   exact ⟨a,b,c',d,e,Int.le_trans f (hk _).1,g⟩
theorem PS.Few.tick {s:PS} {b:Nat} (h:s.Few b) (n:Nat) (c:Int):(s.tick n c).Few b:=⟨h.found,h.fts,h.serial,h.net,h.answers⟩
theorem PS.Sane.write {s:PS} (h:s.Sane) (k:ByteArray) (p:Int) (v:ByteArray):(s.write k p v).Sane:=by
  refine ⟨h.drift,h.clk,h.budget,h.entries,h.waiters,h.len,h.up,h.ents,h.fts,h.apart,h.keys,h.wait,h.serial,h.used,h.net,fun q hq=>?_⟩
  rcases of_aput hq with e|e
  ·subst e
   have:=rec_ver h k
   show 0≤(s.record k).ver+1
   omega
  ·exact h.recs q e
theorem PS.Few.write {s:PS} {b:Nat} (h:s.Few b) (k:ByteArray) (p:Int) (v:ByteArray):(s.write k p v).Few b:=⟨h.found,h.fts,h.serial,h.net,h.answers⟩
theorem delL_sub (n:Nat):∀ (ks:List ByteArray) (l:List ((Nat × ByteArray) × Ent)),(delL n l ks).Sublist l
  | [],l=>List.Sublist.refl l
  | k :: ks,l=>(delL_sub n ks (adel l (n,k))).trans (adel_sub _ _)
theorem PS.Sane.clear {s:PS} (h:s.Sane) (n:Nat):((s.clearE n).clearF n).Sane:=by
  have h1:(s.clearE n).Sane:=by
    refine h.entsStep rfl rfl rfl rfl rfl rfl (fun p hp=>h.ents p ((delL_sub n _ _).subset hp)) (fun m=>?_)
    show (((if m=n then [] else s.used m).length:Nat):Int)≤_∧∀ x∈(if m=n then [] else s.used m),x.size≤4
    split
    ·have:=h.entries.1
     exact ⟨by simp;omega,fun x hx=>by cases hx⟩
    ·exact h.used m
  exact h1.ftsStep h1.serial (fun p hp=>h1.fts p (List.mem_filter.1 hp).1) (h1.apart.filter _) (h1.keys.filter _) (fun m=>Int.le_trans (Int.ofNat_le.2 (waiting_sub List.filter_sublist)) (h1.wait m)) h1.net
theorem PS.Few.clear {s:PS} {b:Nat} (h:s.Few b) (n:Nat):((s.clearE n).clearF n).Few b :=
  ⟨Nat.le_trans (delL_sub n _ _).length_le h.found,Nat.le_trans (List.length_filter_le _ _) h.fts,h.serial,h.net,h.answers⟩
def PS.new (c:Conf):PS:=⟨c,[],fun _=>0,[],fun _=>[],[],0,[],[]⟩
theorem PS.Few.new (c:Conf):(PS.new c).Few 0:=⟨Nat.le_refl _,Nat.le_refl _,Int.le_refl _,Nat.le_refl _,Nat.le_refl _⟩
structure ConfOK (c:Conf):Prop where
  drift:0≤c.drift∧c.drift≤500000
  budget:1≤c.budget∧c.budget≤1000000
  entries:1≤c.entries∧c.entries≤4
  waiters:1≤c.waiters∧c.waiters≤4
  len:2≤c.parents.length∧c.parents.length≤6
  up:∀ n:Nat,0<n→n<c.parents.length→0≤c.parents.getD n 0∧c.parents.getD n 0<c.parents.length
theorem PS.Sane.new {c:Conf} (h:ConfOK c):(PS.new c).Sane :=
  ⟨h.drift,fun _=>⟨Int.le_refl _,by show (0:Int)≤1099511627776;decide⟩,h.budget,h.entries,h.waiters,h.len,h.up,fun p hp=>(by cases hp),fun p hp=>(by cases hp),List.Pairwise.nil,List.Pairwise.nil,fun n=>(by show ((0:Nat):Int)≤c.waiters;have:=h.waiters.1;omega),Int.le_refl _,fun n=>⟨(by show ((0:Nat):Int)≤c.entries;have:=h.entries.1;omega),fun k hk=>(by cases hk)⟩,fun m hm=>(by cases hm),fun p hp=>by cases hp⟩
end
end Go.Proofs.YtpdkojgepagbnaaGreatDoor
