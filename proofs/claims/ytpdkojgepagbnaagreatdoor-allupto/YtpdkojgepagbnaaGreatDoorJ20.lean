/-
  An answer is learnt: the entry stays.
-/
import Derived.Test.YtpdkojgepagbnaaGreatDoorJ19
namespace Go.Proofs.YtpdkojgepagbnaaGreatDoor
set_option maxRecDepth 100000
set_option maxHeartbeats 8000000
section
open Go.RowKit
open Tier (Mes Ans Conf)
attribute [local go_sem ↓] Go.wp_at_zero Go.wp_at_succ
theorem learn_older (own:Own) (τ bt:Nat) (g:Gh) (s:PS) (n:Nat) (m:Mes) (base:Int) (w:World) (h:Lies own τ w bt g s) (hf:s.Fine) (hn:n<6) (h2:m.key.size≤100) (e0:Ent) (he:s.entry n m.key=some e0) (hv:e0.ver=m.ver) (hb:¬ base≤ageAt s.c.drift (s.clk n) e0) :
    Calls Tryz.prog 126 #[.pointer (some ⟨bt,0,none⟩),placeV (n,m.key),mesV m,.int .i64 base] w fun r w'=>r= .returned (.tuple #[])∧Lies own τ w' bt g s∧Step τ own own w w':=by
 have HH:=hide h
 have d12:w.cell? ⟨bt,12,none⟩=some (.pointer (some ⟨g.be,0,none⟩)):=cOf h.tier.block 12
 have d6:w.cell? ⟨bt,6+n,none⟩=some (.int .i64 (s.clk n)):=h.tier.clk hn
 have KA:=hide (fun w (h:Hid (Lies own τ w bt g s))=>At_lies n m.key w h (by omega) h2)
 have hfe:e0.Fine (s.clk n):=(hf.ents _ (aget_mem he)).1
 have KG:Hid (∀ w,Lies own τ w bt g s→Calls Tryz.prog 98 #[.pointer (some ⟨bt,0,none⟩),.int .i64 (n:Int),entV e0] w fun r w'=>r= .returned (.int .i64 (ageAt s.c.drift (s.clk n) e0))∧Turn nO w w'):=fun w h=>age_any bt (s.ts g) n e0 w h.tier (hf.ts g) hn hfe
 rw [he] at KA
 generalize ageAt s.c.drift (s.clk n) e0=ag at *
 clear h hf he hfe
 have i0:(0:Int)≤(n:Int):=by omega
 have i1:(n:Int)<6:=by omega
 generalize s.clk n=ck at *
 obtain ⟨ver0,pres0,val0,base0,since0⟩:=e0
 obtain ⟨kind,frm,tto,key,serial,ver,age,pres,val⟩:=m
 dsimp only at hv
 subst hv
 have hnl:¬ ver0<ver0:=Int.lt_irrefl _
 simp only [mesV,mesL,entV,placeV,Option.getD,Option.isSome] at KA KG ⊢
 go_enter Tryz.func126,Tryz.ntmps126
 go_wp2
 generalize hW:World.alloc _ _=W0
 have T0:Turn nO w W0:=by rw [← hW];exact (Turn.alloc _ _ _).sA
 have hsz:W0.heap.size=w.heap.size+1+1:=by rw [← hW];simp
 have x0:∃ ty,W0.heap[w.heap.size]?=some (.cells #[.int .i64 (n:Int),.string key] ty (0,0)):=by rw [← hW];exact ⟨_,new2_0 _ _ _⟩
 obtain ⟨x0_0,x0_1⟩:=eC2 x0
 have x1:∃ ty,W0.heap[w.heap.size+1]?=some (.cells #[.int .i64 kind,.int .i64 frm,.int .i64 tto,.string key,.int .i64 serial,.int .i64 ver0,.int .i64 age,.int .i64 pres,.string val] ty (0,0)):=by rw [← hW];exact ⟨_,new2_1 _ _ _⟩
 obtain ⟨x1_0,x1_1,x1_2,x1_3,x1_4,x1_5,x1_6,x1_7,x1_8⟩:=eC9 x1
 have c12:=T0.cell d12 id
 have c6:=T0.cell d6 id
 have HL:=hide ((uH HH).turn T0)
 clear hW d12 d6
 have hszw:w.heap.size+1+1≤W0.heap.size:=by omega
 clear hsz
 obtain ⟨B,hsz⟩:∃ B,W0.heap.size=B:=⟨_,rfl⟩
 rw [hsz] at hszw
 have HS:=fun w' (T:Turn nO W0 w')=>And.intro T (And.intro (T.cell c12 id) (And.intro (T.cell x0_0 id) (And.intro (T.cell x0_1 id) ((show Hid (Lies own τ w' bt g s) from ((uH HL).turn T))))))
 go_region_held3 (fun w'=>Turn nO W0 w'∧w'.cell? ⟨bt,12,none⟩=some (.pointer (some ⟨g.be,0,none⟩))∧w'.cell? ⟨w.heap.size,0,none⟩=some (.int .i64 (n:Int))∧w'.cell? ⟨w.heap.size,1,none⟩=some (.string key)∧(Hid (Lies own τ w' bt g s))) ((go_split_ands;apply HS;all_goals (repeat (first|(with_reducible first|assumption|exact Turn.refl _ _|apply Turn.sA|apply Turn.sD|refine tN ?_ (by assumption))|((with_reducible refine Turn.sS ?_ ?_);rotate_left;· first|exact Or.inr rfl|exact Or.inr (Or.inl rfl)|exact Or.inl (by simp <;> omega))|(with_reducible refine tG ?_ (by assumption))|(with_reducible first|apply There.drew|apply There.set|refine hNo ?_ (by assumption))|assumption)))) (first|(go_at_call 65;go_split_ands;refine (uH KA _ (by assumption)).mono ?_;rintro e wq ⟨rfl,TC⟩;(try (have TH:=there_new (n:=4) TC hsz (by simp);have q0:=peek_some (TH.are 0 (by omega));have q1:=peek_some (TH.are 1 (by omega));have q2:=peek_some (TH.are 2 (by omega));have q3:=peek_some (TH.are 3 (by omega));have q4:=peek_some (TH.are 4 (by omega));have r0:=TH.free 0;have r1:=TH.free 1;have r2:=TH.free 2;have r3:=TH.free 3;have r4:=TH.free 4))))
 all_goals go_split_ands
 all_goals clear HS
 all_goals (first
   | (generalize hX:World.alloc _ _=X
      have TX:Turn nO W0 X:=by rw [← hX];assumption
      have z0:X.cell? ⟨wq.heap.size,0,none⟩=some (.int .i64 ver0):=by rw [← hX];exact cOf (new1_0 wq _) 0
      have z1:X.cell? ⟨wq.heap.size,1,none⟩=some (.int .i64 pres0):=by rw [← hX];exact cOf (new1_0 wq _) 1
      have z2:X.cell? ⟨wq.heap.size,2,none⟩=some (.string val0):=by rw [← hX];exact cOf (new1_0 wq _) 2
      have z3:X.cell? ⟨wq.heap.size,3,none⟩=some (.int .i64 base0):=by rw [← hX];exact cOf (new1_0 wq _) 3
      have z4:X.cell? ⟨wq.heap.size,4,none⟩=some (.int .i64 since0):=by rw [← hX];exact cOf (new1_0 wq _) 4
      have f0:X.frozen? ⟨wq.heap.size,0,none⟩=false:=by rw [← hX];exact fOf (new1_0 wq _) 0
      have f1:X.frozen? ⟨wq.heap.size,1,none⟩=false:=by rw [← hX];exact fOf (new1_0 wq _) 1
      have f2:X.frozen? ⟨wq.heap.size,2,none⟩=false:=by rw [← hX];exact fOf (new1_0 wq _) 2
      have f3:X.frozen? ⟨wq.heap.size,3,none⟩=false:=by rw [← hX];exact fOf (new1_0 wq _) 3
      have f4:X.frozen? ⟨wq.heap.size,4,none⟩=false:=by rw [← hX];exact fOf (new1_0 wq _) 4
      have hBw:w.heap.size≤wq.heap.size:=Nat.le_trans (by omega:w.heap.size≤B) (hsz ▸ TC.size)
      have hB0:W0.heap.size≤wq.heap.size:=TC.size
      clear hX TC
      generalize wq.heap.size=B at *)
   | (generalize hX:World.setCell _ _ _=X
      have TX:Turn nO W0 X:=by rw [← hX];assumption
      have z0:X.cell? ⟨B,0,none⟩=some (.int .i64 ver0):=by rw [← hX];simp [go_sem,TH.are 0 (by omega)]
      have z1:X.cell? ⟨B,1,none⟩=some (.int .i64 pres0):=by rw [← hX];simp [go_sem,TH.are 1 (by omega)]
      have z2:X.cell? ⟨B,2,none⟩=some (.string val0):=by rw [← hX];simp [go_sem,TH.are 2 (by omega)]
      have z3:X.cell? ⟨B,3,none⟩=some (.int .i64 base0):=by rw [← hX];simp [go_sem,TH.are 3 (by omega)]
      have z4:X.cell? ⟨B,4,none⟩=some (.int .i64 since0):=by rw [← hX];simp [go_sem,TH.are 4 (by omega)]
      have f0:X.frozen? ⟨B,0,none⟩=false:=by rw [← hX];simp [go_sem,TH.free 0]
      have f1:X.frozen? ⟨B,1,none⟩=false:=by rw [← hX];simp [go_sem,TH.free 1]
      have f2:X.frozen? ⟨B,2,none⟩=false:=by rw [← hX];simp [go_sem,TH.free 2]
      have f3:X.frozen? ⟨B,3,none⟩=false:=by rw [← hX];simp [go_sem,TH.free 3]
      have f4:X.frozen? ⟨B,4,none⟩=false:=by rw [← hX];simp [go_sem,TH.free 4]
      have hBw:w.heap.size≤B:=by omega
      have hB0:W0.heap.size≤B:=by omega
      clear hX TC
      clear TH q0 r0))
 all_goals (have y0_0:=TX.cell x0_0 id)
 all_goals (have y0_1:=TX.cell x0_1 id)
 all_goals (have y1_0:=TX.cell x1_0 id)
 all_goals (have y1_1:=TX.cell x1_1 id)
 all_goals (have y1_2:=TX.cell x1_2 id)
 all_goals (have y1_3:=TX.cell x1_3 id)
 all_goals (have y1_4:=TX.cell x1_4 id)
 all_goals (have y1_5:=TX.cell x1_5 id)
 all_goals (have y1_6:=TX.cell x1_6 id)
 all_goals (have y1_7:=TX.cell x1_7 id)
 all_goals (have y1_8:=TX.cell x1_8 id)
 all_goals (
   have v12:=TX.cell c12 id
   have v6:=TX.cell c6 id
   have HLX:=hide ((uH HL).turn TX)
   go_wp2)
 all_goals (
   have HS:=fun w' (T:Turn nO X w')=>And.intro T (And.intro (T.cell v6 id) (T.cell y0_0 id))
   go_region_held3 (fun w'=>Turn nO X w'∧w'.cell? ⟨bt,6+n,none⟩=some (.int .i64 ck)∧w'.cell? ⟨w.heap.size,0,none⟩=some (.int .i64 (n:Int))) ((go_split_ands;apply HS;all_goals (repeat (first|(with_reducible first|assumption|exact Turn.refl _ _|apply Turn.sA|apply Turn.sD|refine tN ?_ (by assumption))|((with_reducible refine Turn.sS ?_ ?_);rotate_left;· first|exact Or.inr rfl|exact Or.inr (Or.inl rfl)|exact Or.inl (by simp <;> omega))|(with_reducible refine tG ?_ (by assumption))|(with_reducible first|apply There.drew|apply There.set|refine hNo ?_ (by assumption))|assumption)))) (fail))
 all_goals go_split_ands
 all_goals clear HS
 all_goals (
   go_wp2_with fail)
 all_goals (
   refine (uH KG _ ((uH HLX).turn (Turn.drew _ _))).mono ?_
   rintro e w5 ⟨rfl,T5⟩
   have TX5:Turn nO X w5:=((Turn.drew _ _).sT T5 (fun _ _ h=>h))
   have HE:=hide (And.intro ((uH HLX).turn TX5) (Step.of_turn (τ:=τ) (own:=own) ((T0.sT TX (fun _ _ h=>h)).sT TX5 (fun _ _ h=>h))))
   go_wp2
   go_end0
   exact ⟨rfl,(uH HE).1,(uH HE).2⟩)
theorem learn_greater (own:Own) (τ bt:Nat) (g:Gh) (s:PS) (n:Nat) (m:Mes) (base:Int) (w:World) (h:Lies own τ w bt g s) (hn:n<6) (h2:m.key.size≤100) (e0:Ent) (he:s.entry n m.key=some e0) (hv:m.ver<e0.ver) :
    Calls Tryz.prog 126 #[.pointer (some ⟨bt,0,none⟩),placeV (n,m.key),mesV m,.int .i64 base] w fun r w'=>r= .returned (.tuple #[])∧Lies own τ w' bt g s∧Step τ own own w w':=by
 have HH:=hide h
 have d12:w.cell? ⟨bt,12,none⟩=some (.pointer (some ⟨g.be,0,none⟩)):=cOf h.tier.block 12
 have d6:w.cell? ⟨bt,6+n,none⟩=some (.int .i64 (s.clk n)):=h.tier.clk hn
 have KA:=hide (fun w (h:Hid (Lies own τ w bt g s))=>At_lies n m.key w h (by omega) h2)
 rw [he] at KA
 clear h he
 have i0:(0:Int)≤(n:Int):=by omega
 have i1:(n:Int)<6:=by omega
 generalize s.clk n=ck at *
 obtain ⟨ver0,pres0,val0,base0,since0⟩:=e0
 obtain ⟨kind,frm,tto,key,serial,ver,age,pres,val⟩:=m
 dsimp only at hv
 have hnl:¬ ver0<ver:=by omega
 have hne:¬ ver0=ver:=by omega
 simp only [mesV,mesL,entV,placeV,Option.getD,Option.isSome] at KA ⊢
 go_enter Tryz.func126,Tryz.ntmps126
 go_wp2
 generalize hW:World.alloc _ _=W0
 have T0:Turn nO w W0:=by rw [← hW];exact (Turn.alloc _ _ _).sA
 have hsz:W0.heap.size=w.heap.size+1+1:=by rw [← hW];simp
 have x0:∃ ty,W0.heap[w.heap.size]?=some (.cells #[.int .i64 (n:Int),.string key] ty (0,0)):=by rw [← hW];exact ⟨_,new2_0 _ _ _⟩
 obtain ⟨x0_0,x0_1⟩:=eC2 x0
 have x1:∃ ty,W0.heap[w.heap.size+1]?=some (.cells #[.int .i64 kind,.int .i64 frm,.int .i64 tto,.string key,.int .i64 serial,.int .i64 ver,.int .i64 age,.int .i64 pres,.string val] ty (0,0)):=by rw [← hW];exact ⟨_,new2_1 _ _ _⟩
 obtain ⟨x1_0,x1_1,x1_2,x1_3,x1_4,x1_5,x1_6,x1_7,x1_8⟩:=eC9 x1
 have c12:=T0.cell d12 id
 have c6:=T0.cell d6 id
 have HL:=hide ((uH HH).turn T0)
 clear hW d12 d6
 have hszw:w.heap.size+1+1≤W0.heap.size:=by omega
 clear hsz
 obtain ⟨B,hsz⟩:∃ B,W0.heap.size=B:=⟨_,rfl⟩
 rw [hsz] at hszw
 have HS:=fun w' (T:Turn nO W0 w')=>And.intro T (And.intro (T.cell c12 id) (And.intro (T.cell x0_0 id) (And.intro (T.cell x0_1 id) ((show Hid (Lies own τ w' bt g s) from ((uH HL).turn T))))))
 go_region_held3 (fun w'=>Turn nO W0 w'∧w'.cell? ⟨bt,12,none⟩=some (.pointer (some ⟨g.be,0,none⟩))∧w'.cell? ⟨w.heap.size,0,none⟩=some (.int .i64 (n:Int))∧w'.cell? ⟨w.heap.size,1,none⟩=some (.string key)∧(Hid (Lies own τ w' bt g s))) ((go_split_ands;apply HS;all_goals (repeat (first|(with_reducible first|assumption|exact Turn.refl _ _|apply Turn.sA|apply Turn.sD|refine tN ?_ (by assumption))|((with_reducible refine Turn.sS ?_ ?_);rotate_left;· first|exact Or.inr rfl|exact Or.inr (Or.inl rfl)|exact Or.inl (by simp <;> omega))|(with_reducible refine tG ?_ (by assumption))|(with_reducible first|apply There.drew|apply There.set|refine hNo ?_ (by assumption))|assumption)))) (first|(go_at_call 65;go_split_ands;refine (uH KA _ (by assumption)).mono ?_;rintro e wq ⟨rfl,TC⟩;(try (have TH:=there_new (n:=4) TC hsz (by simp);have q0:=peek_some (TH.are 0 (by omega));have q1:=peek_some (TH.are 1 (by omega));have q2:=peek_some (TH.are 2 (by omega));have q3:=peek_some (TH.are 3 (by omega));have q4:=peek_some (TH.are 4 (by omega));have r0:=TH.free 0;have r1:=TH.free 1;have r2:=TH.free 2;have r3:=TH.free 3;have r4:=TH.free 4))))
 all_goals go_split_ands
 all_goals clear HS
 all_goals (first
   | (generalize hX:World.alloc _ _=X
      have TX:Turn nO W0 X:=by rw [← hX];assumption
      have z0:X.cell? ⟨wq.heap.size,0,none⟩=some (.int .i64 ver0):=by rw [← hX];exact cOf (new1_0 wq _) 0
      have z1:X.cell? ⟨wq.heap.size,1,none⟩=some (.int .i64 pres0):=by rw [← hX];exact cOf (new1_0 wq _) 1
      have z2:X.cell? ⟨wq.heap.size,2,none⟩=some (.string val0):=by rw [← hX];exact cOf (new1_0 wq _) 2
      have z3:X.cell? ⟨wq.heap.size,3,none⟩=some (.int .i64 base0):=by rw [← hX];exact cOf (new1_0 wq _) 3
      have z4:X.cell? ⟨wq.heap.size,4,none⟩=some (.int .i64 since0):=by rw [← hX];exact cOf (new1_0 wq _) 4
      have f0:X.frozen? ⟨wq.heap.size,0,none⟩=false:=by rw [← hX];exact fOf (new1_0 wq _) 0
      have f1:X.frozen? ⟨wq.heap.size,1,none⟩=false:=by rw [← hX];exact fOf (new1_0 wq _) 1
      have f2:X.frozen? ⟨wq.heap.size,2,none⟩=false:=by rw [← hX];exact fOf (new1_0 wq _) 2
      have f3:X.frozen? ⟨wq.heap.size,3,none⟩=false:=by rw [← hX];exact fOf (new1_0 wq _) 3
      have f4:X.frozen? ⟨wq.heap.size,4,none⟩=false:=by rw [← hX];exact fOf (new1_0 wq _) 4
      have hBw:w.heap.size≤wq.heap.size:=Nat.le_trans (by omega:w.heap.size≤B) (hsz ▸ TC.size)
      have hB0:W0.heap.size≤wq.heap.size:=TC.size
      clear hX TC
      generalize wq.heap.size=B at *)
   | (generalize hX:World.setCell _ _ _=X
      have TX:Turn nO W0 X:=by rw [← hX];assumption
      have z0:X.cell? ⟨B,0,none⟩=some (.int .i64 ver0):=by rw [← hX];simp [go_sem,TH.are 0 (by omega)]
      have z1:X.cell? ⟨B,1,none⟩=some (.int .i64 pres0):=by rw [← hX];simp [go_sem,TH.are 1 (by omega)]
      have z2:X.cell? ⟨B,2,none⟩=some (.string val0):=by rw [← hX];simp [go_sem,TH.are 2 (by omega)]
      have z3:X.cell? ⟨B,3,none⟩=some (.int .i64 base0):=by rw [← hX];simp [go_sem,TH.are 3 (by omega)]
      have z4:X.cell? ⟨B,4,none⟩=some (.int .i64 since0):=by rw [← hX];simp [go_sem,TH.are 4 (by omega)]
      have f0:X.frozen? ⟨B,0,none⟩=false:=by rw [← hX];simp [go_sem,TH.free 0]
      have f1:X.frozen? ⟨B,1,none⟩=false:=by rw [← hX];simp [go_sem,TH.free 1]
      have f2:X.frozen? ⟨B,2,none⟩=false:=by rw [← hX];simp [go_sem,TH.free 2]
      have f3:X.frozen? ⟨B,3,none⟩=false:=by rw [← hX];simp [go_sem,TH.free 3]
      have f4:X.frozen? ⟨B,4,none⟩=false:=by rw [← hX];simp [go_sem,TH.free 4]
      have hBw:w.heap.size≤B:=by omega
      have hB0:W0.heap.size≤B:=by omega
      clear hX TC
      clear TH q0 r0))
 all_goals (have y0_0:=TX.cell x0_0 id)
 all_goals (have y0_1:=TX.cell x0_1 id)
 all_goals (have y1_0:=TX.cell x1_0 id)
 all_goals (have y1_1:=TX.cell x1_1 id)
 all_goals (have y1_2:=TX.cell x1_2 id)
 all_goals (have y1_3:=TX.cell x1_3 id)
 all_goals (have y1_4:=TX.cell x1_4 id)
 all_goals (have y1_5:=TX.cell x1_5 id)
 all_goals (have y1_6:=TX.cell x1_6 id)
 all_goals (have y1_7:=TX.cell x1_7 id)
 all_goals (have y1_8:=TX.cell x1_8 id)
 all_goals (
   have v12:=TX.cell c12 id
   have v6:=TX.cell c6 id
   have HLX:=hide ((uH HL).turn TX)
   go_wp2)
 all_goals (
   have HS:=fun w' (T:Turn nO X w')=>And.intro T (And.intro (T.cell v6 id) (T.cell y0_0 id))
   go_region_held3 (fun w'=>Turn nO X w'∧w'.cell? ⟨bt,6+n,none⟩=some (.int .i64 ck)∧w'.cell? ⟨w.heap.size,0,none⟩=some (.int .i64 (n:Int))) ((go_split_ands;apply HS;all_goals (repeat (first|(with_reducible first|assumption|exact Turn.refl _ _|apply Turn.sA|apply Turn.sD|refine tN ?_ (by assumption))|((with_reducible refine Turn.sS ?_ ?_);rotate_left;· first|exact Or.inr rfl|exact Or.inr (Or.inl rfl)|exact Or.inl (by simp <;> omega))|(with_reducible refine tG ?_ (by assumption))|(with_reducible first|apply There.drew|apply There.set|refine hNo ?_ (by assumption))|assumption)))) (fail))
 all_goals go_split_ands
 all_goals clear HS
 all_goals (
   have HE:=hide (And.intro ((uH HLX).turn (Turn.drew _ _)) (Step.of_turn (τ:=τ) (own:=own) ((T0.sT TX (fun _ _ h=>h)).sD)))
   go_wp2
   go_end0
   exact ⟨rfl,(uH HE).1,(uH HE).2⟩)
theorem learn_any (own:Own) (τ bt:Nat) (g:Gh) (s:PS) (n:Nat) (m:Mes) (base:Int) (w:World) (h:Lies own τ w bt g s) (hf:s.Fine) (hn:n<6) (h2:m.key.size≤100) (hen:0<s.c.entries) (hul:(s.used n).length≤999) (hks:∀ k∈s.used n,k.size≤100) :
    Calls Tryz.prog 126 #[.pointer (some ⟨bt,0,none⟩),placeV (n,m.key),mesV m,.int .i64 base] w fun r w'=>r= .returned (.tuple #[])∧∃ own' g',Lies own' τ w' bt g' (s.learn n m base)∧Step τ own own' w w'∧g.Like g':=by
 unfold PS.learn
 cases he:s.entry n m.key with
 | none=>exact learn_none own τ bt g s n m base w h hf hn h2 hen hul hks he
 | some e =>
   dsimp only
   by_cases h3:e.ver<m.ver
   ·rw [if_pos h3]
    exact learn_less own τ bt g s n m base w h hf hn h2 hen hul hks e he h3
   ·rw [if_neg h3]
    by_cases h4:e.ver=m.ver∧base≤ageAt s.c.drift (s.clk n) e
    ·rw [if_pos h4]
     exact learn_same own τ bt g s n m base w h hf hn h2 hen hul hks e he h4.1 h4.2
    ·rw [if_neg h4]
     have fin:∀ {r:Ending} {w':World},r= .returned (.tuple #[])∧Lies own τ w' bt g s∧Step τ own own w w'→r= .returned (.tuple #[])∧∃ own' g',Lies own' τ w' bt g' s∧Step τ own own' w w'∧g.Like g':=fun ⟨a,b,c⟩=>⟨a,own,g,b,c,Gh.Like.refl g⟩
     by_cases h5:e.ver=m.ver
     ·exact (learn_older own τ bt g s n m base w h hf hn h2 e he h5 (fun e6=>h4 ⟨h5,e6⟩)).mono (fun _ _=>fin)
     ·exact (learn_greater own τ bt g s n m base w h hn h2 e he (by omega)).mono (fun _ _=>fin)
end
end Go.Proofs.YtpdkojgepagbnaaGreatDoor
