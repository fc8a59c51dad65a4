/-
  Where a cache has what it has of a key; a client asks.
  A client asks; a fetch ends by a timeout.
  A cache crashes; a message is sent a second time.
  A fresh copy of a list.
  The origin's keys are written.
-/
import Derived.Test.YtpdkojgepagbnaaGreatDoorJ21
import Derived.Test.YtpdkojgepagbnaaGreatDoorJ25
import Derived.Test.YtpdkojgepagbnaaGreatDoorJ17
import Derived.Maps.AppendAt
namespace Go.Proofs.YtpdkojgepagbnaaGreatDoor
set_option maxRecDepth 100000
set_option maxHeartbeats 8000000
section
open Go.RowKit
open Tier (Mes Ans Conf)
attribute [local go_sem ↓] Go.wp_at_zero Go.wp_at_succ
theorem Turn.of_below {w w':World} (h:Below w.heap.size w w'):Turn nO w w':=⟨h.os,h.tape,h.output,h.size,fun k hk _=>h.block k hk⟩
theorem keyB_le {k:ByteArray} (h:keyB k=true):1≤k.size∧k.size≤4:=by
  cases hb:Nums.inB (k.size:Int) 1 4 with
  | true=>have:=(Nums.inB_iff ..).1 hb;omega
  | false=>rw [keyB_len hb] at h;cases h
theorem KeyTab.turn {w w':World} (h:KeyTab w) (T:Turn nO w w'):KeyTab w':=by
  obtain ⟨a,b,c,d⟩:=h
  exact ⟨T.cell a id,T.cell b id,T.cell c id,T.cell d id⟩
theorem place_node (own:Own) (τ bt:Nat) (g:Gh) (s:PS) (i:Int) (k:ByteArray) (w:World) (h:Lies own τ w bt g s) (hp:s.c.parents.length≤6) (hc:Nums.inB i 1 ((s.c.parents.length:Int) - 1)=false) :
    Calls Tryz.prog 75 #[.pointer (some ⟨bt,0,none⟩),.int .i64 i,.string k] w fun r w'=>r= .returned (.tuple #[.agg #[.int .i64 0,.string ⟨#[]⟩],.int .i64 2])∧Turn nO w w':=by
 have HH:=hide h
 have KC:=hide (fun w (h:Lies own τ w bt g s)=>isCache_any own τ bt g s i w h hp)
 rw [hc] at KC
 clear h hp hc
 go_enter Tryz.func75,Tryz.ntmps75
 go_wp2_with fail
 refine (uH KC _ ((uH HH).turn (Turn.alloc _ _ _))).mono ?_
 rintro e w1 ⟨rfl,rfl⟩
 go_wp2
 exact bodyPost_ret (v:= .tuple #[.agg #[.int .i64 0,.string ⟨#[]⟩],.int .i64 2]) (by simp [results,Tryz.results75,go_sem]) rfl ⟨rfl,by (repeat (first|(with_reducible first|assumption|exact Turn.refl _ _|apply Turn.sA|apply Turn.sD|refine tN ?_ (by assumption))|((with_reducible refine Turn.sS ?_ ?_);rotate_left;· first|exact Or.inr rfl|exact Or.inr (Or.inl rfl)|exact Or.inl (by simp <;> omega))|(with_reducible refine tG ?_ (by assumption))|(with_reducible first|apply There.drew|apply There.set|refine hNo ?_ (by assumption))|assumption))⟩
theorem place_key (own:Own) (τ bt:Nat) (g:Gh) (s:PS) (i:Int) (k:ByteArray) (w:World) (h:Lies own τ w bt g s) (hK:KeyTab w) (hks:k.size≤maxLen) (hp:s.c.parents.length≤6) (hc:Nums.inB i 1 ((s.c.parents.length:Int) - 1)=true) (hk:keyB k=false) :
    Calls Tryz.prog 75 #[.pointer (some ⟨bt,0,none⟩),.int .i64 i,.string k] w fun r w'=>r= .returned (.tuple #[.agg #[.int .i64 0,.string ⟨#[]⟩],.int .i64 3])∧Turn nO w w':=by
 have HH:=hide h
 have HK:=hide hK
 have KC:=hide (fun w (h:Lies own τ w bt g s)=>isCache_any own τ bt g s i w h hp)
 have KI:=hide (fun w (h:KeyTab w)=>isKey_any k w hks h)
 rw [hc] at KC
 rw [hk] at KI
 clear h hp hc hK hk hks
 go_enter Tryz.func75,Tryz.ntmps75
 go_wp2_with fail
 refine (uH KC _ ((uH HH).turn (Turn.alloc _ _ _))).mono ?_
 rintro e w1 ⟨rfl,rfl⟩
 go_wp2_with fail
 refine (uH KI _ ((uH HK).turn (Turn.alloc _ _ _))).mono ?_
 rintro e w1 ⟨rfl,rfl⟩
 go_wp2
 exact bodyPost_ret (v:= .tuple #[.agg #[.int .i64 0,.string ⟨#[]⟩],.int .i64 3]) (by simp [results,Tryz.results75,go_sem]) rfl ⟨rfl,by (repeat (first|(with_reducible first|assumption|exact Turn.refl _ _|apply Turn.sA|apply Turn.sD|refine tN ?_ (by assumption))|((with_reducible refine Turn.sS ?_ ?_);rotate_left;· first|exact Or.inr rfl|exact Or.inr (Or.inl rfl)|exact Or.inl (by simp <;> omega))|(with_reducible refine tG ?_ (by assumption))|(with_reducible first|apply There.drew|apply There.set|refine hNo ?_ (by assumption))|assumption))⟩
theorem place_ok (own:Own) (τ bt:Nat) (g:Gh) (s:PS) (i:Int) (k:ByteArray) (w:World) (h:Lies own τ w bt g s) (hK:KeyTab w) (hks:k.size≤maxLen) (hp:s.c.parents.length≤6) (hc:Nums.inB i 1 ((s.c.parents.length:Int) - 1)=true) (hk:keyB k=true) :
    Calls Tryz.prog 75 #[.pointer (some ⟨bt,0,none⟩),.int .i64 i,.string k] w fun r w'=>r= .returned (.tuple #[.agg #[.int .i64 i,.string k],.int .i64 0])∧Turn nO w w':=by
 have HH:=hide h
 have HK:=hide hK
 have KC:=hide (fun w (h:Lies own τ w bt g s)=>isCache_any own τ bt g s i w h hp)
 have KI:=hide (fun w (h:KeyTab w)=>isKey_any k w hks h)
 have KN:=hide (fun w=>clone_any k w (by have:=keyB_le hk;omega))
 rw [hc] at KC
 rw [hk] at KI
 clear h hp hc hK hk hks
 go_enter Tryz.func75,Tryz.ntmps75
 go_wp2_with fail
 refine (uH KC _ ((uH HH).turn (Turn.alloc _ _ _))).mono ?_
 rintro e w1 ⟨rfl,rfl⟩
 go_wp2_with fail
 refine (uH KI _ ((uH HK).turn (Turn.alloc _ _ _))).mono ?_
 rintro e w1 ⟨rfl,rfl⟩
 go_wp2_with fail
 refine (uH KN _).mono ?_
 rintro e w1 ⟨rfl,hb⟩
 have T1:Turn nO w w1:=(Turn.alloc _ _ _).sT (Turn.of_below hb) (fun _ _ h=>h)
 have hbk:w1.heap[w.heap.size]?=some (.cells #[.int .i64 0,.string ⟨#[]⟩] 124 (0,0)):=(hb.block _ (by simp)).trans (new1_0 w _)
 have o0:=cOf hbk 0
 have o1:=cOf hbk 1
 have of:∀ i,w1.frozen? ⟨w.heap.size,i,none⟩=false:=fun i=>fOf hbk i
 clear hb hbk
 go_wp2
 exact bodyPost_ret (v:= .tuple #[.agg #[.int .i64 i,.string k],.int .i64 0]) (by simp [results,Tryz.results75,go_sem,o0,o1]) rfl ⟨rfl,(T1.sS (Or.inl (Nat.le_refl _))).sS (Or.inl (Nat.le_refl _))⟩
theorem Ask_bad (bt:Nat) (i id er:Int) (k:ByteArray) (w:World) (her:¬ er=0)
    (KP:Calls Tryz.prog 75 #[.pointer (some ⟨bt,0,none⟩),.int .i64 i,.string k] w fun r w'=>r= .returned (.tuple #[.agg #[.int .i64 0,.string ⟨#[]⟩],.int .i64 er])∧Turn nO w w') :
    Calls Tryz.prog 43 #[.pointer (some ⟨bt,0,none⟩),.int .i64 i,.int .i64 id,.string k] w fun r w'=>r= .returned (.int .i64 er)∧Turn nO w w':=by
 have KP:=hide KP
 go_enter Tryz.func43,Tryz.ntmps43
 go_wp2_with fail
 refine (uH KP).mono ?_
 rintro e w1 ⟨rfl,T1⟩
 go_wp2
 go_ret
 exact ⟨rfl,by (repeat (first|(with_reducible first|assumption|exact Turn.refl _ _|apply Turn.sA|apply Turn.sD|refine tN ?_ (by assumption))|((with_reducible refine Turn.sS ?_ ?_);rotate_left;· first|exact Or.inr rfl|exact Or.inr (Or.inl rfl)|exact Or.inl (by simp <;> omega))|(with_reducible refine tG ?_ (by assumption))|(with_reducible first|apply There.drew|apply There.set|refine hNo ?_ (by assumption))|assumption))⟩
theorem Ask_ok (own:Own) (τ bt:Nat) (g:Gh) (s:PS) (n:Nat) (id:Int) (k:ByteArray) (P:PS→Prop) (w:World) (h:Lies own τ w bt g s)
    (KP:Calls Tryz.prog 75 #[.pointer (some ⟨bt,0,none⟩),.int .i64 (n:Int),.string k] w fun r w'=>r= .returned (.tuple #[.agg #[.int .i64 (n:Int),.string k],.int .i64 0])∧Turn nO w w')
    (KA:∀ w,Lies own τ w bt g s→Calls Tryz.prog 76 #[.pointer (some ⟨bt,0,none⟩),placeV (n,k),wtV ⟨0,0,0,id⟩] w fun r w'=>r= .returned (.tuple #[])∧∃ own' g' s',P s'∧Lies own' τ w' bt g' s'∧Step τ own own' w w'∧g.Like g') :
    Calls Tryz.prog 43 #[.pointer (some ⟨bt,0,none⟩),.int .i64 (n:Int),.int .i64 id,.string k] w fun r w'=>r= .returned (.int .i64 0)∧∃ own' g' s',P s'∧Lies own' τ w' bt g' s'∧Step τ own own' w w'∧g.Like g':=by
 have HH:=hide h
 have KP:=hide KP
 have KA:=hide KA
 simp only [placeV,wtV] at KA
 clear h
 go_enter Tryz.func43,Tryz.ntmps43
 go_wp2_with fail
 refine (uH KP).mono ?_
 rintro e w1 ⟨rfl,T1⟩
 go_wp2_with fail
 refine (uH KA _ ((uH HH).turn (T1.sT (Turn.alloc _ _ _) (fun _ _ h=>h)))).mono ?_
 rintro e w2 ⟨rfl,own2,g2,s2,P2,L2,S2,GL2⟩
 have HE:=hide (And.intro P2 (And.intro L2 (And.intro ((Step.of_turn (T1.sT (Turn.alloc _ _ _) (fun _ _ h=>h))).trans S2) GL2)))
 clear P2 L2 S2 GL2
 go_wp2
 go_ret
 exact ⟨rfl,own2,g2,s2,(uH HE).1,(uH HE).2.1,(uH HE).2.2.1,(uH HE).2.2.2⟩
theorem Timeout_bad (bt:Nat) (i er:Int) (k:ByteArray) (w:World) (her:¬ er=0)
    (KP:Calls Tryz.prog 75 #[.pointer (some ⟨bt,0,none⟩),.int .i64 i,.string k] w fun r w'=>r= .returned (.tuple #[.agg #[.int .i64 0,.string ⟨#[]⟩],.int .i64 er])∧Turn nO w w') :
    Calls Tryz.prog 51 #[.pointer (some ⟨bt,0,none⟩),.int .i64 i,.string k] w fun r w'=>r= .returned (.int .i64 er)∧Turn nO w w':=by
 have KP:=hide KP
 go_enter Tryz.func51,Tryz.ntmps51
 go_wp2_with fail
 refine (uH KP).mono ?_
 rintro e w1 ⟨rfl,T1⟩
 go_wp2
 go_ret
 exact ⟨rfl,by (repeat (first|(with_reducible first|assumption|exact Turn.refl _ _|apply Turn.sA|apply Turn.sD|refine tN ?_ (by assumption))|((with_reducible refine Turn.sS ?_ ?_);rotate_left;· first|exact Or.inr rfl|exact Or.inr (Or.inl rfl)|exact Or.inl (by simp <;> omega))|(with_reducible refine tG ?_ (by assumption))|(with_reducible first|apply There.drew|apply There.set|refine hNo ?_ (by assumption))|assumption))⟩
theorem Timeout_none (own:Own) (τ bt:Nat) (g:Gh) (s:PS) (n:Nat) (k:ByteArray) (w:World) (h:Lies own τ w bt g s) (hn:n<6) (h2:k.size≤100) (hft:aget s.fts (n,k)=none)
    (KP:Calls Tryz.prog 75 #[.pointer (some ⟨bt,0,none⟩),.int .i64 (n:Int),.string k] w fun r w'=>r= .returned (.tuple #[.agg #[.int .i64 (n:Int),.string k],.int .i64 0])∧Turn nO w w') :
    Calls Tryz.prog 51 #[.pointer (some ⟨bt,0,none⟩),.int .i64 (n:Int),.string k] w fun r w'=>r= .returned (.int .i64 8)∧Turn nO w w':=by
 have HH:=hide h
 have KP:=hide KP
 have hbq:g.bq<w.heap.size:=h.fts.lt
 have HK:Hid (∀ w':World,w'.heap[g.bq]?=w.heap[g.bq]?→(Instr.lookup 74 (.map (some g.bq)) (.agg #[.int .i64 (n:Int),.string k]) true).run Tryz.prog w'= .ok (.tuple #[.agg #[.int .i64 0,.int .i64 0,.slice none 0 0],.bool false]) w'):=fun w' e=>by
   have:=ft_look (h.fts.heap e) (by omega:n<1000) h2
   rw [hft] at this
   exact this
 have d13:w.cell? ⟨bt,13,none⟩=some (.map (some g.bq)):=cOf h.tier.block 13
 clear h hft
 go_enter Tryz.func51,Tryz.ntmps51
 go_wp2_with fail
 refine (uH KP).mono ?_
 rintro e w1 ⟨rfl,T1⟩
 go_wp2
 generalize hW:World.alloc _ _=W0
 have T0:Turn nO w W0:=by rw [← hW];exact T1.sA
 have a0:W0.cell? ⟨w1.heap.size,0,none⟩=some (.int .i64 (n:Int)):=by rw [← hW];exact cOf (new1_0 w1 _) 0
 have a1:W0.cell? ⟨w1.heap.size,1,none⟩=some (.string k):=by rw [← hW];exact cOf (new1_0 w1 _) 1
 have c13:=T0.cell d13 id
 have hbq0:g.bq<W0.heap.size:=Nat.lt_of_lt_of_le hbq T0.size
 clear hW d13
 have HS:=fun w' (T:Turn nO W0 w')=>And.intro T (And.intro (T.cell c13 id) (And.intro (T.cell a0 id) (And.intro (T.cell a1 id) ((show (Instr.lookup 74 (.map (some g.bq)) (.agg #[.int .i64 (n:Int),.string k]) true).run Tryz.prog w'= .ok (.tuple #[.agg #[.int .i64 0,.int .i64 0,.slice none 0 0],.bool false]) w' from (uH HK _ ((T.block _ hbq0 id).trans (T0.block _ hbq id))))))))
 go_region_held3 (fun w'=>Turn nO W0 w'∧w'.cell? ⟨bt,13,none⟩=some (.map (some g.bq))∧w'.cell? ⟨w1.heap.size,0,none⟩=some (.int .i64 (n:Int))∧w'.cell? ⟨w1.heap.size,1,none⟩=some (.string k)∧((Instr.lookup 74 (.map (some g.bq)) (.agg #[.int .i64 (n:Int),.string k]) true).run Tryz.prog w'= .ok (.tuple #[.agg #[.int .i64 0,.int .i64 0,.slice none 0 0],.bool false]) w')) ((go_split_ands;apply HS;all_goals (repeat (first|(with_reducible first|assumption|exact Turn.refl _ _|apply Turn.sA|apply Turn.sD|refine tN ?_ (by assumption))|((with_reducible refine Turn.sS ?_ ?_);rotate_left;· first|exact Or.inr rfl|exact Or.inr (Or.inl rfl)|exact Or.inl (by simp <;> omega))|(with_reducible refine tG ?_ (by assumption))|(with_reducible first|apply There.drew|apply There.set|refine hNo ?_ (by assumption))|assumption)))) (fail)
 all_goals go_split_ands
 all_goals clear HS
 all_goals (
   go_wp2
   go_ret
   exact ⟨rfl,T0.sT (N:=nO) (by (repeat (first|(with_reducible first|assumption|exact Turn.refl _ _|apply Turn.sA|apply Turn.sD|refine tN ?_ (by assumption))|((with_reducible refine Turn.sS ?_ ?_);rotate_left;· first|exact Or.inr rfl|exact Or.inr (Or.inl rfl)|exact Or.inl (by simp <;> omega))|(with_reducible refine tG ?_ (by assumption))|(with_reducible first|apply There.drew|apply There.set|refine hNo ?_ (by assumption))|assumption))) (fun _ _ h=>h)⟩)
theorem Timeout_ok (own:Own) (τ bt:Nat) (g:Gh) (s:PS) (n:Nat) (k:ByteArray) (f:Ft) (w:World) (h:Lies own τ w bt g s) (hf:s.Fine) (hn:n<6) (h2:k.size≤100) (hft:aget s.fts (n,k)=some f) (hl1:s.net.length+f.l.length<1000000000000) (hl2:s.answers.length+f.l.length<1000000000000)
    (KP:Calls Tryz.prog 75 #[.pointer (some ⟨bt,0,none⟩),.int .i64 (n:Int),.string k] w fun r w'=>r= .returned (.tuple #[.agg #[.int .i64 (n:Int),.string k],.int .i64 0])∧Turn nO w w') :
    Calls Tryz.prog 51 #[.pointer (some ⟨bt,0,none⟩),.int .i64 (n:Int),.string k] w fun r w'=>r= .returned (.int .i64 0)∧∃ own' g',Lies own' τ w' bt g' ((s.over n k).refuseL n k f.l)∧Step τ own own' w w'∧g.Like g':=by
 have HH:=hide h
 have KP:=hide KP
 have hbq:g.bq<w.heap.size:=h.fts.lt
 have KR:=hide (fun w (h:Lies own τ w bt g s)=>refuseAll_any own τ bt g s n k f w h hf.apart (fun p hp=>(hf.fts p hp).2.2.1) hft (by omega) h2 hl1 hl2)
 obtain ⟨fa,fc,hfv⟩:=row_form (h.waits _ (aget_mem hft)).row
 obtain ⟨fser,fsent,fl,fv⟩:=f
 dsimp only at hfv KR ⊢
 generalize hfn:(fl.map wtL).length=fn at hfv
 subst hfv
 have HK:Hid (∀ w':World,w'.heap[g.bq]?=w.heap[g.bq]?→(Instr.lookup 74 (.map (some g.bq)) (.agg #[.int .i64 (n:Int),.string k]) true).run Tryz.prog w'= .ok (.tuple #[.agg #[.int .i64 fser,.int .i64 fsent,.slice fa fn fc],.bool true]) w'):=fun w' e=>by
   have:=ft_look (h.fts.heap e) (by omega:n<1000) h2
   rw [hft] at this
   exact this
 have d13:w.cell? ⟨bt,13,none⟩=some (.map (some g.bq)):=cOf h.tier.block 13
 simp only [placeV] at KR
 clear h hft hf hl1 hl2
 go_enter Tryz.func51,Tryz.ntmps51
 go_wp2_with fail
 refine (uH KP).mono ?_
 rintro e w1 ⟨rfl,T1⟩
 go_wp2
 generalize hW:World.alloc _ _=W0
 have T0:Turn nO w W0:=by rw [← hW];exact T1.sA
 have a0:W0.cell? ⟨w1.heap.size,0,none⟩=some (.int .i64 (n:Int)):=by rw [← hW];exact cOf (new1_0 w1 _) 0
 have a1:W0.cell? ⟨w1.heap.size,1,none⟩=some (.string k):=by rw [← hW];exact cOf (new1_0 w1 _) 1
 have c13:=T0.cell d13 id
 have hbq0:g.bq<W0.heap.size:=Nat.lt_of_lt_of_le hbq T0.size
 clear hW d13
 have HS:=fun w' (T:Turn nO W0 w')=>And.intro T (And.intro (T.cell c13 id) (And.intro (T.cell a0 id) (And.intro (T.cell a1 id) ((show (Instr.lookup 74 (.map (some g.bq)) (.agg #[.int .i64 (n:Int),.string k]) true).run Tryz.prog w'= .ok (.tuple #[.agg #[.int .i64 fser,.int .i64 fsent,.slice fa fn fc],.bool true]) w' from (uH HK _ ((T.block _ hbq0 id).trans (T0.block _ hbq id))))))))
 go_region_held3 (fun w'=>Turn nO W0 w'∧w'.cell? ⟨bt,13,none⟩=some (.map (some g.bq))∧w'.cell? ⟨w1.heap.size,0,none⟩=some (.int .i64 (n:Int))∧w'.cell? ⟨w1.heap.size,1,none⟩=some (.string k)∧((Instr.lookup 74 (.map (some g.bq)) (.agg #[.int .i64 (n:Int),.string k]) true).run Tryz.prog w'= .ok (.tuple #[.agg #[.int .i64 fser,.int .i64 fsent,.slice fa fn fc],.bool true]) w')) ((go_split_ands;apply HS;all_goals (repeat (first|(with_reducible first|assumption|exact Turn.refl _ _|apply Turn.sA|apply Turn.sD|refine tN ?_ (by assumption))|((with_reducible refine Turn.sS ?_ ?_);rotate_left;· first|exact Or.inr rfl|exact Or.inr (Or.inl rfl)|exact Or.inl (by simp <;> omega))|(with_reducible refine tG ?_ (by assumption))|(with_reducible first|apply There.drew|apply There.set|refine hNo ?_ (by assumption))|assumption)))) (fail)
 all_goals go_split_ands
 all_goals clear HS
 all_goals (
   generalize hV:World.drew _=V
   have TV:Turn nO W0 V:=by rw [← hV];exact (Turn.alloc _ _ _).sD
   clear hV
   have y0:=TV.cell a0 id
   have y1:=TV.cell a1 id
   have T2:=T0.sT TV (fun _ _ h=>h)
   go_wp2_with fail
   refine (uH KR _ ((uH HH).turn T2)).mono ?_
   rintro e w4 ⟨rfl,own4,g4,L4,S4,GL4⟩
   have HE:=hide (And.intro L4 (And.intro ((Step.of_turn T2).trans S4) GL4))
   clear L4 S4 GL4
   go_wp2
   go_ret
   exact ⟨rfl,own4,g4,(uH HE).1,(uH HE).2.1,(uH HE).2.2⟩)
theorem Lies.letGo {own:Own} {τ:Nat} {w w1:World} {bt:Nat} {g:Gh} {s:PS} (h:Lies own τ w bt g s) {F:List ((Nat × ByteArray) × Ft)} (hF:∀ p∈F,p∈s.fts)
    (hm:MapIs Tryz.prog 124 w1 g.bq (rawL placeV ftV F)) (hT:Turn (fun k=>k=g.bq) w w1) :
    Lies own τ w1 bt g { s with fts:=F }∧Step τ own own w w1:=by
 have Fr0:Fr (fun x=>x=13) own own τ w w1:=⟨fun k' hk x hx ho=>⟨hT.block k' hk (fun e=>by rw [e,h.ftsO] at ho;cases ho;exact hx rfl),rfl⟩⟩
 exact ⟨⟨fun k' hk=>h.top k' (Nat.le_trans hT.size hk),⟨Fr0.block h.tierO (by omega) h.tier.block⟩,h.tierO,Fr0.row h.pars (by omega),Fr0.block h.origO (by omega) h.orig,h.origO,Fr0.map h.recsO (by omega) h.recs,h.recsO,Fr0.block h.entsO (by omega) h.ents,h.entsO,Fr0.map h.foundO (by omega) h.found,h.foundO,fun i hi=>Fr0.row (h.used i hi) (by omega),hm,h.ftsO,fun p hp=>Fr0.row (h.waits p (hF p hp)) (by omega),Fr0.row h.net (by omega),Fr0.row h.ans (by omega)⟩,⟨hT.mono (fun k' _ e=>⟨13,by rw [e];exact h.ftsO⟩),fun _ _=>Or.inl rfl⟩⟩
theorem FClear_lies (own:Own) (τ bt:Nat) (g:Gh) (s:PS) (n:Nat) (w:World) (h:Lies own τ w bt g s) (hk:∀ p∈s.fts,p.1.1<1000∧p.1.2.size≤100) :
    Calls Tryz.prog 89 #[.map (some g.bq),.int .i64 (n:Int)] w fun r w'=>r= .returned (.tuple #[])∧Lies own τ w' bt g (s.clearF n)∧Step τ own own w w':=by
 refine (FClear_any g.bq n s.fts w h.fts (fun p hp=>?_) hk).mono ?_
 ·obtain ⟨a,c,e⟩:=row_form (h.waits p hp).row
  exact ⟨a,c,by rw [e];simp⟩
 ·rintro r w' ⟨rfl,T,hm⟩
  obtain ⟨L,S⟩:=h.letGo (F:=s.fts.filter (fun p=>decide (p.1.1≠n))) (fun p hp=>(List.mem_filter.1 hp).1) hm T
  exact ⟨rfl,L,S⟩
theorem Crash_node (own:Own) (τ bt:Nat) (g:Gh) (s:PS) (i:Int) (w:World) (h:Lies own τ w bt g s) (hp:s.c.parents.length≤6) (hc:Nums.inB i 1 ((s.c.parents.length:Int) - 1)=false) :
    Calls Tryz.prog 53 #[.pointer (some ⟨bt,0,none⟩),.int .i64 i] w fun r w'=>r= .returned (.int .i64 2)∧w'=w:=by
 have KC:=hide (isCache_any own τ bt g s i w h hp)
 rw [hc] at KC
 clear h hp hc
 go_enter Tryz.func53,Tryz.ntmps53
 go_wp2_with fail
 refine (uH KC).mono ?_
 rintro e w1 ⟨rfl,rfl⟩
 go_wp2
 go_ret
 exact ⟨rfl,rfl⟩
theorem Crash_ok (own:Own) (τ bt:Nat) (g:Gh) (s:PS) (n:Nat) (w:World) (h:Lies own τ w bt g s) (hp:s.c.parents.length≤6) (hc:Nums.inB (n:Int) 1 ((s.c.parents.length:Int) - 1)=true) (hul:(s.used n).length≤1000) (hks:∀ k∈s.used n,k.size≤100) (hk:∀ p∈s.fts,p.1.1<1000∧p.1.2.size≤100) :
    Calls Tryz.prog 53 #[.pointer (some ⟨bt,0,none⟩),.int .i64 (n:Int)] w fun r w'=>r= .returned (.int .i64 0)∧∃ own' g',Lies own' τ w' bt g' ((s.clearE n).clearF n)∧Step τ own own' w w'∧g.Like g':=by
 have hn:n<6:=by have:=(Nums.inB_iff ..).1 hc;omega
 have KC:=hide (isCache_any own τ bt g s n w h hp)
 rw [hc] at KC
 have KE:=hide (EClear_any own τ bt g s n w h hn hul hks)
 have KF:=hide (fun own g w (h:Lies own τ w bt g (s.clearE n))=>FClear_lies own τ bt g (s.clearE n) n w h hk)
 have d12:w.cell? ⟨bt,12,none⟩=some (.pointer (some ⟨g.be,0,none⟩)):=cOf h.tier.block 12
 clear h hp hc hul hks hk
 go_enter Tryz.func53,Tryz.ntmps53
 go_wp2_with fail
 refine (uH KC).mono ?_
 rintro e w1 ⟨rfl,rfl⟩
 go_wp2_with fail
 refine (uH KE).mono ?_
 rintro e w2 ⟨rfl,own2,g2,L2,S2,GL2⟩
 have d13:w2.cell? ⟨bt,13,none⟩=some (.map (some g2.bq)):=cOf L2.tier.block 13
 have H2:=hide (And.intro L2 (And.intro S2 GL2))
 clear L2 S2 GL2
 go_wp2_with fail
 refine (uH KF own2 g2 w2 (uH H2).1).mono ?_
 rintro e w3 ⟨rfl,L3,S3⟩
 have HE:=hide (And.intro L3 ((uH H2).2.1.trans S3))
 clear L3 S3
 go_wp2
 go_ret
 exact ⟨rfl,own2,g2,(uH HE).1,(uH HE).2,(uH H2).2.2⟩
theorem Double_ok (own:Own) (τ bt:Nat) (g:Gh) (s:PS) (i:Nat) (m:Mes) (w:World) (h:Lies own τ w bt g s) (hi:s.net[i]?=some m) (hful:s.net.length<64) :
    Calls Tryz.prog 49 #[.pointer (some ⟨bt,0,none⟩),.int .i64 (i:Int)] w fun r w'=>r= .returned (.int .i64 0)∧∃ own' g',Lies own' τ w' bt g' { s with net:=s.net ++ [m] }∧Step τ own own' w w'∧g.Like g':=by
 obtain ⟨nb,nc,cur,hv,ho,hnb,hb,hlc,hcs,hcf,hcell⟩:=h.mesAt hi
 have hlen:i<s.net.length:=(List.getElem?_eq_some_iff.1 hi).1
 have KC:=hide (isSent_any own τ bt g s i w h (by omega))
 rw [show Nums.inB (i:Int) 0 ((s.net.length:Int) - 1)=true from (Nums.inB_iff ..).2 (by omega)] at KC
 have d15:w.cell? ⟨bt,15,none⟩=some (.slice (some ⟨nb,0,none⟩) s.net.length nc):=by rw [← hv];exact cOf h.tier.block 15
 have KS:=hide (send_any own τ bt g s m w h (by omega))
 obtain ⟨kind,frm,tto,key,serial,ver,age,pres,val⟩:=m
 obtain ⟨c0,c1,c2,c3,c4,c5,c6,c7,c8⟩:=rC9 hcell
 have i0:(0:Int)≤(i:Int):=by omega
 have i1:(i:Int)<(s.net.length:Int):=by omega
 have hlt:¬ (64:Int)≤(s.net.length:Int):=by omega
 simp only [mesV,mesL] at KS
 clear h hi hcell hb hcf hcs hlc hv hlen ho hful
 generalize s.net.length=n at *
 go_enter Tryz.func49,Tryz.ntmps49
 go_wp2_with fail
 refine (uH KC).mono ?_
 rintro e w1 ⟨rfl,rfl⟩
 go_wp2_with fail
 refine (uH KS).mono ?_
 rintro e w2 ⟨rfl,own2,g2,L2,S2,GL2⟩
 have HE:=hide (And.intro L2 (And.intro S2 GL2))
 clear L2 S2 GL2
 go_wp2
 go_ret
 exact ⟨rfl,own2,g2,(uH HE).1,(uH HE).2.1,(uH HE).2.2⟩
theorem infoI:(Tryz.prog.info? 3).map (fun i=>(i.zero,i.size,i.bytes))=some (some (.int .i64 0),1,8):=by kernel_rfl
theorem Clone_mes (v:Value) (n:Nat) (xs:List Value) (w:World) (h:w.ownsRow 0 37 9 v n xs) (h1:∀ u∈xs,u.oneCell'=true) (hbig:n≤1000000000000) :
    Calls Tryz.prog 62 #[v] w fun r w'=>∃ v',r= .returned v'∧Turn nO w w'∧w'.ownsRow w.heap.size 37 9 v' n xs:=by
 obtain ⟨i0,hi,hz0,hz1,hz2⟩:=info_parts infoMes
 obtain ⟨hl,⟨rfl,rfl⟩|⟨g,cap,cur,rfl,_,hg,hc1,hc2,hc3,hc4⟩⟩:=h
 ·have hx:xs=[]:=List.eq_nil_of_length_eq_zero (by simpa using hl)
  subst hx
  have hnil:∀ w:World,(binOp BinOp.eql 59 (.slice none 0 0) (.slice none 0 0)).run Tryz.prog w= .ok (.bool true) w:=fun w=>by kernel_rfl
  go_enter Tryz.func62,Tryz.ntmps62
  go_wp2
  go_ret
  exact ⟨_,rfl,Turn.refl _ _,World.ownsRow_nil _ _ _ _⟩
 ·have hg0:g<w.heap.size:=heap_lt hg
  have hnews:Hid (∀ j u,xs[j]?=some u→∀ w':World,w'.heap[g]?=w.heap[g]?→w'.cell? ((⟨g,0,none⟩:Addr).add j)=some u):=fun j u hu w' e=>by
    refine World.news_of_block (e.trans hg) j u ?_
    rw [← hc4] at hu
    rw [List.getElem?_take] at hu
    split at hu
    ·exact hu
    ·cases hu
  have HL:=hide hl
  have H1:=hide h1
  have hnil:∀ w:World,(binOp BinOp.eql 59 (.slice (some ⟨g,0,none⟩) n cap) (.slice none 0 0)).run Tryz.prog w= .ok (.bool false) w:=fun w=>by kernel_rfl
  clear hc4 hc1 hc2 hc3 h1 hl
  go_enter Tryz.func62,Tryz.ntmps62
  go_wp2_with (at_builtin;refine wpList_append_own_at _ (by rfl) _ _ _ (by rfl) w.heap.size 37 i0 _ 9 88 Tryz.underlying59 hi hz0 hz1 hz2 rfl (by omega) (.slice (some ⟨w.heap.size,0,none⟩) 0 0) 0 [] (by rfl) ⟨by simp,Or.inr ⟨w.heap.size,0,#[],rfl,Nat.le_refl _,heap_alloc_new w _,Nat.le_refl _,by unfold maxLen;omega,by simp,by simp⟩⟩ ⟨g,0,none⟩ n cap xs (by rfl) (uH HL) (fun j u hu=>uH hnews j u hu _ ((Turn.alloc nO w _).block g hg0 id)) (uH H1) (by unfold maxLen;omega) (by omega) (by simp) ?_)
  intro v' w1 hown' hgrow _ _
  have HE:Hid (Turn nO w w1∧w1.ownsRow w.heap.size 37 9 v' n xs):=⟨(Turn.alloc nO w _).sT (Turn.grown hgrow) (fun k' hk' e=>by simp [Value.ownBlock] at e;omega),by simpa using hown'⟩
  clear hown' hgrow
  go_wp2
  go_ret
  exact ⟨_,rfl,(uH HE).1,(uH HE).2⟩
theorem Clone_str (v:Value) (n:Nat) (xs:List Value) (w:World) (h:w.ownsRow 0 9 1 v n xs) (h1:∀ u∈xs,u.oneCell'=true) (hbig:n≤1000000000000) :
    Calls Tryz.prog 97 #[v] w fun r w'=>∃ v',r= .returned v'∧Turn nO w w'∧w'.ownsRow w.heap.size 9 1 v' n xs:=by
 obtain ⟨i0,hi,hz0,hz1,hz2⟩:=info_parts infoStr
 obtain ⟨hl,⟨rfl,rfl⟩|⟨g,cap,cur,rfl,_,hg,hc1,hc2,hc3,hc4⟩⟩:=h
 ·have hx:xs=[]:=List.eq_nil_of_length_eq_zero (by simpa using hl)
  subst hx
  have hnil:∀ w:World,(binOp BinOp.eql 113 (.slice none 0 0) (.slice none 0 0)).run Tryz.prog w= .ok (.bool true) w:=fun w=>by kernel_rfl
  go_enter Tryz.func97,Tryz.ntmps97
  go_wp2
  go_ret
  exact ⟨_,rfl,Turn.refl _ _,World.ownsRow_nil _ _ _ _⟩
 ·have hg0:g<w.heap.size:=heap_lt hg
  have hnews:Hid (∀ j u,xs[j]?=some u→∀ w':World,w'.heap[g]?=w.heap[g]?→w'.cell? ((⟨g,0,none⟩:Addr).add j)=some u):=fun j u hu w' e=>by
    refine World.news_of_block (e.trans hg) j u ?_
    rw [← hc4] at hu
    rw [List.getElem?_take] at hu
    split at hu
    ·exact hu
    ·cases hu
  have HL:=hide hl
  have H1:=hide h1
  have hnil:∀ w:World,(binOp BinOp.eql 113 (.slice (some ⟨g,0,none⟩) n cap) (.slice none 0 0)).run Tryz.prog w= .ok (.bool false) w:=fun w=>by kernel_rfl
  clear hc4 hc1 hc2 hc3 h1 hl
  go_enter Tryz.func97,Tryz.ntmps97
  go_wp2_with (at_builtin;refine wpList_append_own_at _ (by rfl) _ _ _ (by rfl) w.heap.size 9 i0 _ 1 16 Tryz.underlying113 hi hz0 hz1 hz2 rfl (by omega) (.slice (some ⟨w.heap.size,0,none⟩) 0 0) 0 [] (by rfl) ⟨by simp,Or.inr ⟨w.heap.size,0,#[],rfl,Nat.le_refl _,heap_alloc_new w _,Nat.le_refl _,by unfold maxLen;omega,by simp,by simp⟩⟩ ⟨g,0,none⟩ n cap xs (by rfl) (uH HL) (fun j u hu=>uH hnews j u hu _ ((Turn.alloc nO w _).block g hg0 id)) (uH H1) (by unfold maxLen;omega) (by omega) (by simp) ?_)
  intro v' w1 hown' hgrow _ _
  have HE:Hid (Turn nO w w1∧w1.ownsRow w.heap.size 9 1 v' n xs):=⟨(Turn.alloc nO w _).sT (Turn.grown hgrow) (fun k' hk' e=>by simp [Value.ownBlock] at e;omega),by simpa using hown'⟩
  clear hown' hgrow
  go_wp2
  go_ret
  exact ⟨_,rfl,(uH HE).1,(uH HE).2⟩
theorem Clone_int (v:Value) (n:Nat) (xs:List Value) (w:World) (h:w.ownsRow 0 3 1 v n xs) (h1:∀ u∈xs,u.oneCell'=true) (hbig:n≤1000000000000) :
    Calls Tryz.prog 56 #[v] w fun r w'=>∃ v',r= .returned v'∧Turn nO w w'∧w'.ownsRow w.heap.size 3 1 v' n xs:=by
 obtain ⟨i0,hi,hz0,hz1,hz2⟩:=info_parts infoI
 obtain ⟨hl,⟨rfl,rfl⟩|⟨g,cap,cur,rfl,_,hg,hc1,hc2,hc3,hc4⟩⟩:=h
 ·have hx:xs=[]:=List.eq_nil_of_length_eq_zero (by simpa using hl)
  subst hx
  have hnil:∀ w:World,(binOp BinOp.eql 33 (.slice none 0 0) (.slice none 0 0)).run Tryz.prog w= .ok (.bool true) w:=fun w=>by kernel_rfl
  go_enter Tryz.func56,Tryz.ntmps56
  go_wp2
  go_ret
  exact ⟨_,rfl,Turn.refl _ _,World.ownsRow_nil _ _ _ _⟩
 ·have hg0:g<w.heap.size:=heap_lt hg
  have hnews:Hid (∀ j u,xs[j]?=some u→∀ w':World,w'.heap[g]?=w.heap[g]?→w'.cell? ((⟨g,0,none⟩:Addr).add j)=some u):=fun j u hu w' e=>by
    refine World.news_of_block (e.trans hg) j u ?_
    rw [← hc4] at hu
    rw [List.getElem?_take] at hu
    split at hu
    ·exact hu
    ·cases hu
  have HL:=hide hl
  have H1:=hide h1
  have hnil:∀ w:World,(binOp BinOp.eql 33 (.slice (some ⟨g,0,none⟩) n cap) (.slice none 0 0)).run Tryz.prog w= .ok (.bool false) w:=fun w=>by kernel_rfl
  clear hc4 hc1 hc2 hc3 h1 hl
  go_enter Tryz.func56,Tryz.ntmps56
  go_wp2_with (at_builtin;refine wpList_append_own_at _ (by rfl) _ _ _ (by rfl) w.heap.size 3 i0 _ 1 8 Tryz.underlying33 hi hz0 hz1 hz2 rfl (by omega) (.slice (some ⟨w.heap.size,0,none⟩) 0 0) 0 [] (by rfl) ⟨by simp,Or.inr ⟨w.heap.size,0,#[],rfl,Nat.le_refl _,heap_alloc_new w _,Nat.le_refl _,by unfold maxLen;omega,by simp,by simp⟩⟩ ⟨g,0,none⟩ n cap xs (by rfl) (uH HL) (fun j u hu=>uH hnews j u hu _ ((Turn.alloc nO w _).block g hg0 id)) (uH H1) (by unfold maxLen;omega) (by omega) (by simp) ?_)
  intro v' w1 hown' hgrow _ _
  have HE:Hid (Turn nO w w1∧w1.ownsRow w.heap.size 3 1 v' n xs):=⟨(Turn.alloc nO w _).sT (Turn.grown hgrow) (fun k' hk' e=>by simp [Value.ownBlock] at e;omega),by simpa using hown'⟩
  clear hown' hgrow
  go_wp2
  go_ret
  exact ⟨_,rfl,(uH HE).1,(uH HE).2⟩
theorem Net_any (own:Own) (τ bt:Nat) (g:Gh) (s:PS) (w:World) (h:Lies own τ w bt g s) (hp:s.net.length≤1000000000000) :
    Calls Tryz.prog 32 #[.pointer (some ⟨bt,0,none⟩)] w fun r w'=>∃ v',r= .returned v'∧Turn nO w w'∧w'.ownsRow w.heap.size 37 9 v' s.net.length (s.net.map mesL).flatten:=by
 have hr:=h.net.row
 rw [List.length_map] at hr
 have KC:=hide (Clone_mes g.nv s.net.length (s.net.map mesL).flatten w hr (mes_one s.net) hp)
 have d15:w.cell? ⟨bt,15,none⟩=some g.nv:=cOf h.tier.block 15
 obtain ⟨a,c,hv⟩:=row_form hr
 rw [hv] at d15 KC
 clear h hr hv hp
 go_enter Tryz.func32,Tryz.ntmps32
 go_wp2_with fail
 refine (uH KC).mono ?_
 rintro e w1 ⟨v',rfl,HE⟩
 have HE:=hide HE
 go_wp2
 go_ret
 exact ⟨_,rfl,(uH HE).1,(uH HE).2⟩
theorem Lies.wrote {own:Own} {τ:Nat} {w w':World} {bt:Nat} {g:Gh} {s:PS} (h:Lies own τ w bt g s) {l:List (ByteArray × Rec)} (hm:MapIs Tryz.prog 9 w' g.bm (rawL .string recV l)) (ht:w.mapTurned w' g.bm) :
    Lies own τ w' bt g { s with recs:=l }∧Step τ own own w w':=by
 have hT:=Turn.grown ht.grown
 have F:Fr (fun x=>x=4) own own τ w w':=⟨fun k' hk x hx ho=>⟨hT.block k' hk (fun e=>by cases e;rw [h.recsO] at ho;cases ho;exact hx rfl),rfl⟩⟩
 exact ⟨⟨fun k' hk=>h.top k' (Nat.le_trans hT.size hk),⟨F.block h.tierO (by omega) h.tier.block⟩,h.tierO,F.row h.pars (by omega),F.block h.origO (by omega) h.orig,h.origO,hm,h.recsO,F.block h.entsO (by omega) h.ents,h.entsO,F.map h.foundO (by omega) h.found,h.foundO,fun i hi=>F.row (h.used i hi) (by omega),F.map h.ftsO (by omega) h.fts,h.ftsO,fun p hp=>F.row (h.waits p hp) (by omega),F.row h.net (by omega),F.row h.ans (by omega)⟩,⟨hT.mono (fun k' _ e=>⟨4,by cases e;exact h.recsO⟩),fun _ _=>Or.inl rfl⟩⟩
theorem OWrite_new (own:Own) (τ bt:Nat) (g:Gh) (s:PS) (k v:ByteArray) (w:World) (h:Lies own τ w bt g s) (hK:KeyTab w) (hk:keyB k=true) (hv:valB v=true) (hr:aget s.recs k=none) (hl:s.recs.length<16) :
    Calls Tryz.prog 69 #[.pointer (some ⟨g.bo,0,none⟩),.string k,.string v] w fun r w'=>r= .returned (.int .i64 0)∧Lies own τ w' bt g { s with recs:=aput s.recs k ⟨1,1,v⟩ }∧Step τ own own w w':=by
 have hks:=keyB_le hk
 have hvs:v.size≤16:=by unfold valB at hv;have:=of_decide_eq_true hv;omega
 have HH:=hide h
 have KI:=hide (isKey_any k w (by unfold maxLen;omega) hK)
 rw [hk] at KI
 have KV:=hide (isValue_any v w)
 rw [hv] at KV
 have KCk:=hide (fun w=>clone_any k w (by omega))
 have KCv:=hide (fun w=>clone_any v w (by omega))
 have d0:w.cell? ⟨g.bo,0,none⟩=some (.map (some g.bm)):=cOf h.orig 0
 have hbm:g.bm<w.heap.size:=h.recs.lt
 have hbo:g.bo<w.heap.size:=heap_lt h.orig
 have HK:Hid (∀ w':World,w'.heap[g.bm]?=w.heap[g.bm]?→(Instr.lookup 109 (.map (some g.bm)) (.string k) true).run Tryz.prog w'= .ok (.tuple #[.agg #[.int .i64 0,.int .i64 0,.string ⟨#[]⟩],.bool false]) w'):=fun w' e=>by
   have:=rec_look2 (h.recs.heap e) (k:=k) (by unfold maxLen;omega)
   rw [hr] at this
   exact this
 have HN:Hid (∀ w':World,w'.heap[g.bm]?=w.heap[g.bm]?→(Builtin.len_ #[109] 3 #[.map (some g.bm)]).run Tryz.prog w'= .ok (.int .i64 (s.recs.length:Int)) w'):=fun w' e=>by
   have:=(h.recs.heap e).len Tryz.underlying109 3
   simpa [rawL] using this
 have hl':¬ (16:Int)≤(s.recs.length:Int):=by omega
 have hwr:IntKind.i64.wrap 1=1:=by rw [IntKind.wrap_i64];omega
 clear h hK hk hv hr hl
 go_enter Tryz.func69,Tryz.ntmps69
 go_wp2_with fail
 refine (uH KI).mono ?_
 rintro e w1 ⟨rfl,rfl⟩
 go_wp2_with fail
 refine (uH KV).mono ?_
 rintro e w1 ⟨rfl,rfl⟩
 have hlk:=uH HK w1 rfl
 have hln:=uH HN (w1.alloc (.cells #[.int .i64 0,.int .i64 0,.string ⟨#[]⟩] 169)) ((Turn.alloc nO w1 _).block _ hbm id)
 go_wp2
 generalize hW:World.alloc _ _=W0
 have T0:Turn nO w1 W0:=by rw [← hW];exact Turn.alloc _ _ _
 have y0:W0.cell? ⟨w1.heap.size,0,none⟩=some (.int .i64 0):=by rw [← hW];exact cOf (new1_0 w1 _) 0
 have hsz:W0.heap.size=w1.heap.size+1:=by rw [← hW];simp
 have c0:=T0.cell d0 id
 have HL:=hide ((uH HH).turn T0)
 have hne:Hid (∀ k',some k'=some g.bm→k'<w1.heap.size∧k'≠g.bo):=fun k' e=>by cases e;exact ⟨hbm,fun e=>by have:=(uH HH).recsO;rw [e,(uH HH).origO] at this;cases this⟩
 have hkm:k.size≤maxLen:=by unfold maxLen;omega
 have hrl:s.recs.length<maxLen:=by unfold maxLen;omega
 clear hW d0 hlk
 have HS:=fun w' (T:Turn (fun k'=>k'=0∧False∨some k'=some g.bm) W0 w')=>And.intro T (And.intro (T.cell c0 (fun h=>h.elim (fun e=>e.2) (fun e=>(uH hne _ e).2 rfl))) (T.cell y0 (fun h=>h.elim (fun e=>e.2) (fun e=>absurd (uH hne _ e).1 (by dsimp only;omega)))))
 go_region_held3 (fun w'=>Turn (fun k'=>k'=0∧False∨some k'=some g.bm) W0 w'∧w'.cell? ⟨g.bo,0,none⟩=some (.map (some g.bm))∧w'.cell? ⟨w1.heap.size,0,none⟩=some (.int .i64 0)) ((go_split_ands;apply HS;all_goals (repeat (first|(with_reducible first|assumption|exact Turn.refl _ _|apply Turn.sA|apply Turn.sD|refine tN ?_ (by assumption))|((with_reducible refine Turn.sS ?_ ?_);rotate_left;· first|exact Or.inr rfl|exact Or.inr (Or.inl rfl)|exact Or.inl (by simp <;> omega))|(with_reducible refine tG ?_ (by assumption))|(with_reducible first|apply There.drew|apply There.set|refine hNo ?_ (by assumption))|assumption))))
   (first
     | (go_at_call 96;go_split_ands;refine (uH KCk _).mono ?_;rintro e wA ⟨rfl,hbA⟩;have TA:=Turn.of_below hbA)
     | (go_at_call 96;go_split_ands;refine (uH KCv _).mono ?_;rintro e wB ⟨rfl,hbB⟩;have TB:=Turn.of_below hbB;have HLB:=hide (((uH HL).turn (Turn.drew _ _)).turn (TA.sT TB (fun _ _ h=>h)));obtain ⟨w2,hrun,hm2,ht2⟩:=map_put (w:=wB) (uH HLB).recs stringKeyed Tryz.underlying109 string_inj (Go.WideMaps.keyOf_string_mk Tryz.underlying9 hkm) ⟨1,1,v⟩ hrl;have hgrow:=ht2.grown;have HM2:=hide (And.intro hm2 ht2);simp only [recV] at hrun))
 go_split_ands
 clear HS
 obtain ⟨hm2',ht2'⟩:=uH HM2
 obtain ⟨L2,S2⟩:=(uH HLB).wrote hm2' ht2'
 have HE:=hide (And.intro L2 (((Step.of_turn (τ:=τ) (own:=own) ((T0.sD).sT (TA.sT TB (fun _ _ h=>h)) (fun _ _ h=>h)))).trans S2))
 clear L2 S2 hm2' ht2' hm2 ht2 hgrow
 go_wp2
 go_ret
 exact ⟨rfl,(uH HE).1,(uH HE).2⟩
theorem OWrite_old (own:Own) (τ bt:Nat) (g:Gh) (s:PS) (k v:ByteArray) (w:World) (h:Lies own τ w bt g s) (hK:KeyTab w) (hk:keyB k=true) (hv:valB v=true) (rc:Rec) (hr:aget s.recs k=some rc) (hl:s.recs.length<100) (hver:0≤rc.ver∧rc.ver≤1000000000000) :
    Calls Tryz.prog 69 #[.pointer (some ⟨g.bo,0,none⟩),.string k,.string v] w fun r w'=>r= .returned (.int .i64 0)∧Lies own τ w' bt g { s with recs:=aput s.recs k ⟨rc.ver+1,1,v⟩ }∧Step τ own own w w':=by
 have hks:=keyB_le hk
 have hvs:v.size≤16:=by unfold valB at hv;have:=of_decide_eq_true hv;omega
 have HH:=hide h
 have KI:=hide (isKey_any k w (by unfold maxLen;omega) hK)
 rw [hk] at KI
 have KV:=hide (isValue_any v w)
 rw [hv] at KV
 have KCk:=hide (fun w=>clone_any k w (by omega))
 have KCv:=hide (fun w=>clone_any v w (by omega))
 have d0:w.cell? ⟨g.bo,0,none⟩=some (.map (some g.bm)):=cOf h.orig 0
 have hbm:g.bm<w.heap.size:=h.recs.lt
 have hbo:g.bo<w.heap.size:=heap_lt h.orig
 have HK:Hid (∀ w':World,w'.heap[g.bm]?=w.heap[g.bm]?→(Instr.lookup 109 (.map (some g.bm)) (.string k) true).run Tryz.prog w'= .ok (.tuple #[.agg #[.int .i64 rc.ver,.int .i64 rc.pres,.string rc.val],.bool true]) w'):=fun w' e=>by
   have:=rec_look2 (h.recs.heap e) (k:=k) (by unfold maxLen;omega)
   rw [hr] at this
   exact this
 have hwr:IntKind.i64.wrap (rc.ver+1)=rc.ver+1:=by rw [IntKind.wrap_i64];omega
 clear h hK hk hv hr hver
 obtain ⟨ver,pres,val⟩:=rc
 dsimp only at *
 go_enter Tryz.func69,Tryz.ntmps69
 go_wp2_with fail
 refine (uH KI).mono ?_
 rintro e w1 ⟨rfl,rfl⟩
 go_wp2_with fail
 refine (uH KV).mono ?_
 rintro e w1 ⟨rfl,rfl⟩
 have hlk:=uH HK w1 rfl
 go_wp2
 generalize hW:World.alloc _ _=W0
 have T0:Turn nO w1 W0:=by rw [← hW];exact Turn.alloc _ _ _
 have y0:W0.cell? ⟨w1.heap.size,0,none⟩=some (.int .i64 ver):=by rw [← hW];exact cOf (new1_0 w1 _) 0
 have hsz:W0.heap.size=w1.heap.size+1:=by rw [← hW];simp
 have c0:=T0.cell d0 id
 have HL:=hide ((uH HH).turn T0)
 have hne:Hid (∀ k',some k'=some g.bm→k'<w1.heap.size∧k'≠g.bo):=fun k' e=>by cases e;exact ⟨hbm,fun e=>by have:=(uH HH).recsO;rw [e,(uH HH).origO] at this;cases this⟩
 have hkm:k.size≤maxLen:=by unfold maxLen;omega
 have hrl:s.recs.length<maxLen:=by unfold maxLen;omega
 clear hW d0 hlk
 have HS:=fun w' (T:Turn (fun k'=>k'=0∧False∨some k'=some g.bm) W0 w')=>And.intro T (And.intro (T.cell c0 (fun h=>h.elim (fun e=>e.2) (fun e=>(uH hne _ e).2 rfl))) (T.cell y0 (fun h=>h.elim (fun e=>e.2) (fun e=>absurd (uH hne _ e).1 (by dsimp only;omega)))))
 go_region_held3 (fun w'=>Turn (fun k'=>k'=0∧False∨some k'=some g.bm) W0 w'∧w'.cell? ⟨g.bo,0,none⟩=some (.map (some g.bm))∧w'.cell? ⟨w1.heap.size,0,none⟩=some (.int .i64 ver)) ((go_split_ands;apply HS;all_goals (repeat (first|(with_reducible first|assumption|exact Turn.refl _ _|apply Turn.sA|apply Turn.sD|refine tN ?_ (by assumption))|((with_reducible refine Turn.sS ?_ ?_);rotate_left;· first|exact Or.inr rfl|exact Or.inr (Or.inl rfl)|exact Or.inl (by simp <;> omega))|(with_reducible refine tG ?_ (by assumption))|(with_reducible first|apply There.drew|apply There.set|refine hNo ?_ (by assumption))|assumption))))
   (first
     | (go_at_call 96;go_split_ands;refine (uH KCk _).mono ?_;rintro e wA ⟨rfl,hbA⟩;have TA:=Turn.of_below hbA)
     | (go_at_call 96;go_split_ands;refine (uH KCv _).mono ?_;rintro e wB ⟨rfl,hbB⟩;have TB:=Turn.of_below hbB;have HLB:=hide (((uH HL).turn (Turn.drew _ _)).turn (TA.sT TB (fun _ _ h=>h)));obtain ⟨w2,hrun,hm2,ht2⟩:=map_put (w:=wB) (uH HLB).recs stringKeyed Tryz.underlying109 string_inj (Go.WideMaps.keyOf_string_mk Tryz.underlying9 hkm) ⟨ver+1,1,v⟩ hrl;have hgrow:=ht2.grown;have HM2:=hide (And.intro hm2 ht2);simp only [recV] at hrun))
 go_split_ands
 clear HS
 obtain ⟨hm2',ht2'⟩:=uH HM2
 obtain ⟨L2,S2⟩:=(uH HLB).wrote hm2' ht2'
 have HE:=hide (And.intro L2 (((Step.of_turn (τ:=τ) (own:=own) ((T0.sD).sT (TA.sT TB (fun _ _ h=>h)) (fun _ _ h=>h)))).trans S2))
 clear L2 S2 hm2' ht2' hm2 ht2 hgrow
 go_wp2
 go_ret
 exact ⟨rfl,(uH HE).1,(uH HE).2⟩
theorem Write_ok (own:Own) (τ bt:Nat) (g:Gh) (s:PS) (k v:ByteArray) (w:World) (h:Lies own τ w bt g s) (hK:KeyTab w) (hk:keyB k=true) (hv:valB v=true) (hl:aget s.recs k=none→s.recs.length<16) (hl2:s.recs.length<100) (hver:∀ p∈s.recs,0≤p.2.ver∧p.2.ver≤1000000000000) :
    Calls Tryz.prog 37 #[.pointer (some ⟨bt,0,none⟩),.string k,.string v] w fun r w'=>r= .returned (.int .i64 0)∧Lies own τ w' bt g (s.write k 1 v)∧Step τ own own w w':=by
 have KO:Hid (Calls Tryz.prog 69 #[.pointer (some ⟨g.bo,0,none⟩),.string k,.string v] w fun r w'=>r= .returned (.int .i64 0)∧Lies own τ w' bt g (s.write k 1 v)∧Step τ own own w w'):=by
   unfold PS.write PS.record
   cases hr:aget s.recs k with
   | none=>exact OWrite_new own τ bt g s k v w h hK hk hv hr (hl hr)
   | some r=>exact OWrite_old own τ bt g s k v w h hK hk hv r hr hl2 (hver _ (aget_mem hr))
 have d5:w.cell? ⟨bt,5,none⟩=some (.pointer (some ⟨g.bo,0,none⟩)):=cOf h.tier.block 5
 clear h hK hk hv hl hl2 hver
 go_enter Tryz.func37,Tryz.ntmps37
 go_wp2_with fail
 refine (uH KO).mono ?_
 rintro e w1 ⟨rfl,HE⟩
 have HE:=hide HE
 go_wp2
 go_ret
 exact ⟨rfl,(uH HE).1,(uH HE).2⟩
end
end Go.Proofs.YtpdkojgepagbnaaGreatDoor
