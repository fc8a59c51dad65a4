/-
  A Fetch comes to the origin.
-/
import Derived.Test.YtpdkojgepagbnaaGreatDoorJ11
namespace Go.Proofs.YtpdkojgepagbnaaGreatDoor
set_option maxRecDepth 100000
set_option maxHeartbeats 8000000
section
open Go.RowKit
open Tier (Mes Ans Conf)
attribute [local go_sem ↓] Go.wp_at_zero Go.wp_at_succ
def PS.asked (s:PS) (n:Nat) (k:ByteArray) (x:Wt) (v:Value):PS :=
  match s.entry n k with
  | none=>s.wait n k x v
  | some e=>if ageAt s.c.drift (s.clk n) e≤s.c.budget then (s.use n k).tell n x (seen k e (ageAt s.c.drift (s.clk n) e)) else s.wait n k x v
theorem asked_any (own:Own) (τ bt:Nat) (g:Gh) (s:PS) (n:Nat) (k:ByteArray) (x:Wt) (w:World) (h:Lies own τ w bt g s) (hf:s.Fine) (hn:n<6) (h2:k.size≤100) (hul:(s.used n).length≤1000) (hser:s.serial<1000000000000) (hl1:s.net.length<1000000000000) (hl2:s.answers.length<1000000000000) (hpar:n<s.c.parents.length) :
    Calls Tryz.prog 76 #[.pointer (some ⟨bt,0,none⟩),placeV (n,k),wtV x] w fun r w'=>r= .returned (.tuple #[])∧∃ own' g' v,Lies own' τ w' bt g' (s.asked n k x v)∧Step τ own own' w w'∧g.Like g':=by
 unfold PS.asked
 cases he:s.entry n k with
 | none=>exact asked_none own τ bt g s n k x w h hf hn h2 hser hl1 hl2 hpar he
 | some e =>
   by_cases hage:ageAt s.c.drift (s.clk n) e≤s.c.budget
   ·refine (asked_fresh own τ bt g s n k x e w h hf hn h2 hul hl1 hl2 he hage).mono ?_
    rintro r w' ⟨rfl,own',g',L,S,GL⟩
    refine ⟨rfl,own',g',.bool true,?_,S,GL⟩
    dsimp only
    rw [if_pos hage]
    exact L
   ·refine (asked_stale own τ bt g s n k x e w h hf hn h2 hser hl1 hl2 hpar he hage).mono ?_
    rintro r w' ⟨rfl,own',g',v,L,S,GL⟩
    refine ⟨rfl,own',g',v,?_,S,GL⟩
    dsimp only
    rw [if_neg hage]
    exact L
def PS.askedOrigin (s:PS) (m:Mes):PS:=s.tell 0 (childOf m) ⟨m.key,(s.record m.key).ver,(s.record m.key).pres,(s.record m.key).val,0⟩
theorem askedOrigin_any (own:Own) (τ bt:Nat) (g:Gh) (s:PS) (m:Mes) (w:World) (h:Lies own τ w bt g s) (hk:m.key.size≤maxLen) (hl1:s.net.length<1000000000000) (hl2:s.answers.length<1000000000000) :
    Calls Tryz.prog 112 #[.pointer (some ⟨bt,0,none⟩),mesV m] w fun r w'=>r= .returned (.tuple #[])∧∃ own' g',Lies own' τ w' bt g' (s.askedOrigin m)∧Step τ own own' w w'∧g.Like g':=by
 have HH:=hide h
 have htop:Hid (∀ k',w.heap.size≤k'→own k'=none):=h.top
 have d5:w.cell? ⟨bt,5,none⟩=some (.pointer (some ⟨g.bo,0,none⟩)):=cOf h.tier.block 5
 have KA:=hide (fun w (h:Hid (Lies own τ w bt g s))=>originAt_any own τ bt g s m.key w h hk)
 have KC:=hide (fun w=>child_any m w)
 unfold PS.askedOrigin
 have KT:=hide (fun w (h:Lies own τ w bt g s)=>tell_any own τ bt g s 0 (childOf m) ⟨m.key,(s.record m.key).ver,(s.record m.key).pres,(s.record m.key).val,0⟩ w h hl1 hl2)
 clear h hk hl1 hl2
 generalize s.record m.key=rc at *
 obtain ⟨rver,rpres,rval⟩:=rc
 obtain ⟨kind,frm,tto,key,serial,ver,age,pres,val⟩:=m
 simp only [mesV,mesL,recV,seeV,wtV,childOf,Int.cast_ofNat_Int] at KA KC KT ⊢
 go_enter Tryz.func112,Tryz.ntmps112
 go_wp2
 generalize hW:World.alloc _ _=W0
 have T0:Turn nO w W0:=by rw [← hW];exact (Turn.alloc _ _ _)
 have hsz:W0.heap.size=w.heap.size+1:=by rw [← hW];simp
 have x0:∃ ty,W0.heap[w.heap.size]?=some (.cells #[.int .i64 kind,.int .i64 frm,.int .i64 tto,.string key,.int .i64 serial,.int .i64 ver,.int .i64 age,.int .i64 pres,.string val] ty (0,0)):=by rw [← hW];exact ⟨_,new1_0 _ _⟩
 obtain ⟨x0_0,x0_1,x0_2,x0_3,x0_4,x0_5,x0_6,x0_7,x0_8⟩:=eC9 x0
 have c5:=T0.cell d5 id
 have HL:=hide ((uH HH).turn T0)
 clear hW d5
 have HS:=fun w' (T:Turn nO W0 w')=>And.intro T (And.intro (T.cell c5 id) (And.intro (T.cell x0_0 id) (And.intro (T.cell x0_1 id) (And.intro (T.cell x0_2 id) (And.intro (T.cell x0_3 id) (And.intro (T.cell x0_4 id) (And.intro (T.cell x0_5 id) (And.intro (T.cell x0_6 id) (And.intro (T.cell x0_7 id) (And.intro (T.cell x0_8 id) ((show Hid (Lies own τ w' bt g s) from ((uH HL).turn T)))))))))))))
 go_region_held3 (fun w'=>Turn nO W0 w'∧w'.cell? ⟨bt,5,none⟩=some (.pointer (some ⟨g.bo,0,none⟩))∧w'.cell? ⟨w.heap.size,0,none⟩=some (.int .i64 kind)∧w'.cell? ⟨w.heap.size,1,none⟩=some (.int .i64 frm)∧w'.cell? ⟨w.heap.size,2,none⟩=some (.int .i64 tto)∧w'.cell? ⟨w.heap.size,3,none⟩=some (.string key)∧w'.cell? ⟨w.heap.size,4,none⟩=some (.int .i64 serial)∧w'.cell? ⟨w.heap.size,5,none⟩=some (.int .i64 ver)∧w'.cell? ⟨w.heap.size,6,none⟩=some (.int .i64 age)∧w'.cell? ⟨w.heap.size,7,none⟩=some (.int .i64 pres)∧w'.cell? ⟨w.heap.size,8,none⟩=some (.string val)∧(Hid (Lies own τ w' bt g s))) ((go_split_ands;apply HS;all_goals (repeat (first|(with_reducible first|assumption|exact Turn.refl _ _|apply Turn.sA|apply Turn.sD|refine tN ?_ (by assumption))|((with_reducible refine Turn.sS ?_ ?_);rotate_left;· first|exact Or.inr rfl|exact Or.inr (Or.inl rfl)|exact Or.inl (by simp <;> omega))|(with_reducible refine tG ?_ (by assumption))|(with_reducible first|apply There.drew|apply There.set|refine hNo ?_ (by assumption))|assumption)))) (first|(go_at_call 129;go_split_ands;refine (uH KA _ (by assumption)).mono ?_;rintro e wq ⟨rfl,TC⟩;(try (have TH:=there_new (n:=2) TC hsz (by simp);have q0:=peek_some (TH.are 0 (by omega));have q1:=peek_some (TH.are 1 (by omega));have q2:=peek_some (TH.are 2 (by omega));have r0:=TH.free 0;have r1:=TH.free 1;have r2:=TH.free 2))))
 all_goals go_split_ands
 all_goals clear HS
 ·generalize hX:World.alloc _ _=X
  have TX:Turn nO W0 X:=by rw [← hX];assumption
  have z0:X.cell? ⟨wq.heap.size,0,none⟩=some (.int .i64 rver):=by rw [← hX];exact cOf (new1_0 wq _) 0
  have z1:X.cell? ⟨wq.heap.size,1,none⟩=some (.int .i64 rpres):=by rw [← hX];exact cOf (new1_0 wq _) 1
  have z2:X.cell? ⟨wq.heap.size,2,none⟩=some (.string rval):=by rw [← hX];exact cOf (new1_0 wq _) 2
  have hBw:w.heap.size≤wq.heap.size:=Nat.le_trans (by omega:w.heap.size≤w.heap.size+1) (hsz ▸ TC.size)
  clear hX TC
  have y0:=TX.cell x0_0 id
  have y1:=TX.cell x0_1 id
  have y2:=TX.cell x0_2 id
  have y3:=TX.cell x0_3 id
  have y4:=TX.cell x0_4 id
  have y5:=TX.cell x0_5 id
  have y6:=TX.cell x0_6 id
  have y7:=TX.cell x0_7 id
  have y8:=TX.cell x0_8 id
  have HLX:=hide ((uH HL).turn TX)
  have hnm:∀ {b:Nat},w.heap.size≤b→¬ Mine own τ b:=fun hb ⟨y,hy⟩=>by rw [uH htop _ hb] at hy;cases hy
  go_wp2
  have HS:=fun w' (T:Turn (Mine own τ) X w')=>And.intro T (And.intro (T.cell y0 (hnm (by dsimp only;omega))) (And.intro (T.cell y1 (hnm (by dsimp only;omega))) (And.intro (T.cell y2 (hnm (by dsimp only;omega))) (And.intro (T.cell y3 (hnm (by dsimp only;omega))) (And.intro (T.cell y4 (hnm (by dsimp only;omega))) (And.intro (T.cell y5 (hnm (by dsimp only;omega))) (And.intro (T.cell y6 (hnm (by dsimp only;omega))) (And.intro (T.cell y7 (hnm (by dsimp only;omega))) (And.intro (T.cell y8 (hnm (by dsimp only;omega))) (And.intro (T.cell z0 (hnm hBw)) (And.intro (T.cell z1 (hnm hBw)) (T.cell z2 (hnm hBw)))))))))))))
  go_region_held3 (fun w'=>Turn (Mine own τ) X w'∧w'.cell? ⟨w.heap.size,0,none⟩=some (.int .i64 kind)∧w'.cell? ⟨w.heap.size,1,none⟩=some (.int .i64 frm)∧w'.cell? ⟨w.heap.size,2,none⟩=some (.int .i64 tto)∧w'.cell? ⟨w.heap.size,3,none⟩=some (.string key)∧w'.cell? ⟨w.heap.size,4,none⟩=some (.int .i64 serial)∧w'.cell? ⟨w.heap.size,5,none⟩=some (.int .i64 ver)∧w'.cell? ⟨w.heap.size,6,none⟩=some (.int .i64 age)∧w'.cell? ⟨w.heap.size,7,none⟩=some (.int .i64 pres)∧w'.cell? ⟨w.heap.size,8,none⟩=some (.string val)∧w'.cell? ⟨wq.heap.size,0,none⟩=some (.int .i64 rver)∧w'.cell? ⟨wq.heap.size,1,none⟩=some (.int .i64 rpres)∧w'.cell? ⟨wq.heap.size,2,none⟩=some (.string rval))
    ((go_split_ands;apply HS;first|exact TF|(repeat (first|(with_reducible first|assumption|exact Turn.refl _ _|apply Turn.sA|apply Turn.sD|refine tN ?_ (by assumption))|((with_reducible refine Turn.sS ?_ ?_);rotate_left;· first|exact Or.inr rfl|exact Or.inr (Or.inl rfl)|exact Or.inl (by simp <;> omega))|(with_reducible refine tG ?_ (by assumption))|(with_reducible first|apply There.drew|apply There.set|refine hNo ?_ (by assumption))|assumption))))
    (first
      | (go_at_call 113;go_split_ands;refine (uH KC _).mono ?_;rintro e w7 ⟨rfl,T7⟩)
      | (go_at_call 105;go_split_ands;refine (uH KT _ (((uH HLX).turn (Turn.drew _ _)).turn T7)).mono ?_;rintro e w8 ⟨rfl,own8,g8,L8,S8,GL8⟩;have TF:Turn (Mine own τ) X w8:=((Turn.drew _ _).sT (N:=nO) T7 (fun _ _ h=>False.elim h)).sT S8.turn (fun _ _ h=>h)))
  go_split_ands
  have HE:=hide (And.intro L8 (And.intro ((Step.of_turn (((T0.sT TX (fun _ _ h=>h)).sD).sT T7 (fun _ _ h=>h))).trans S8) GL8))
  clear L8 S8 GL8 TF HS
  go_wp2
  go_end0
  exact ⟨rfl,own8,g8,(uH HE).1,(uH HE).2.1,(uH HE).2.2⟩
 ·generalize hX:World.setCell _ _ _=X
  have TX:Turn nO W0 X:=by rw [← hX];assumption
  have z0:X.cell? ⟨w.heap.size+1,0,none⟩=some (.int .i64 rver):=by rw [← hX];simp [go_sem,TH.are 0 (by omega)]
  have z1:X.cell? ⟨w.heap.size+1,1,none⟩=some (.int .i64 rpres):=by rw [← hX];simp [go_sem,TH.are 1 (by omega)]
  have z2:X.cell? ⟨w.heap.size+1,2,none⟩=some (.string rval):=by rw [← hX];simp [go_sem,TH.are 2 (by omega)]
  have hBw:w.heap.size≤w.heap.size+1:=by omega
  clear hX TC
  have y0:=TX.cell x0_0 id
  have y1:=TX.cell x0_1 id
  have y2:=TX.cell x0_2 id
  have y3:=TX.cell x0_3 id
  have y4:=TX.cell x0_4 id
  have y5:=TX.cell x0_5 id
  have y6:=TX.cell x0_6 id
  have y7:=TX.cell x0_7 id
  have y8:=TX.cell x0_8 id
  have HLX:=hide ((uH HL).turn TX)
  have hnm:∀ {b:Nat},w.heap.size≤b→¬ Mine own τ b:=fun hb ⟨y,hy⟩=>by rw [uH htop _ hb] at hy;cases hy
  go_wp2
  have HS:=fun w' (T:Turn (Mine own τ) X w')=>And.intro T (And.intro (T.cell y0 (hnm (by dsimp only;omega))) (And.intro (T.cell y1 (hnm (by dsimp only;omega))) (And.intro (T.cell y2 (hnm (by dsimp only;omega))) (And.intro (T.cell y3 (hnm (by dsimp only;omega))) (And.intro (T.cell y4 (hnm (by dsimp only;omega))) (And.intro (T.cell y5 (hnm (by dsimp only;omega))) (And.intro (T.cell y6 (hnm (by dsimp only;omega))) (And.intro (T.cell y7 (hnm (by dsimp only;omega))) (And.intro (T.cell y8 (hnm (by dsimp only;omega))) (And.intro (T.cell z0 (hnm hBw)) (And.intro (T.cell z1 (hnm hBw)) (T.cell z2 (hnm hBw)))))))))))))
  go_region_held3 (fun w'=>Turn (Mine own τ) X w'∧w'.cell? ⟨w.heap.size,0,none⟩=some (.int .i64 kind)∧w'.cell? ⟨w.heap.size,1,none⟩=some (.int .i64 frm)∧w'.cell? ⟨w.heap.size,2,none⟩=some (.int .i64 tto)∧w'.cell? ⟨w.heap.size,3,none⟩=some (.string key)∧w'.cell? ⟨w.heap.size,4,none⟩=some (.int .i64 serial)∧w'.cell? ⟨w.heap.size,5,none⟩=some (.int .i64 ver)∧w'.cell? ⟨w.heap.size,6,none⟩=some (.int .i64 age)∧w'.cell? ⟨w.heap.size,7,none⟩=some (.int .i64 pres)∧w'.cell? ⟨w.heap.size,8,none⟩=some (.string val)∧w'.cell? ⟨w.heap.size+1,0,none⟩=some (.int .i64 rver)∧w'.cell? ⟨w.heap.size+1,1,none⟩=some (.int .i64 rpres)∧w'.cell? ⟨w.heap.size+1,2,none⟩=some (.string rval))
    ((go_split_ands;apply HS;first|exact TF|(repeat (first|(with_reducible first|assumption|exact Turn.refl _ _|apply Turn.sA|apply Turn.sD|refine tN ?_ (by assumption))|((with_reducible refine Turn.sS ?_ ?_);rotate_left;· first|exact Or.inr rfl|exact Or.inr (Or.inl rfl)|exact Or.inl (by simp <;> omega))|(with_reducible refine tG ?_ (by assumption))|(with_reducible first|apply There.drew|apply There.set|refine hNo ?_ (by assumption))|assumption))))
    (first
      | (go_at_call 113;go_split_ands;refine (uH KC _).mono ?_;rintro e w7 ⟨rfl,T7⟩)
      | (go_at_call 105;go_split_ands;refine (uH KT _ (((uH HLX).turn (Turn.drew _ _)).turn T7)).mono ?_;rintro e w8 ⟨rfl,own8,g8,L8,S8,GL8⟩;have TF:Turn (Mine own τ) X w8:=((Turn.drew _ _).sT (N:=nO) T7 (fun _ _ h=>False.elim h)).sT S8.turn (fun _ _ h=>h)))
  go_split_ands
  have HE:=hide (And.intro L8 (And.intro ((Step.of_turn (((T0.sT TX (fun _ _ h=>h)).sD).sT T7 (fun _ _ h=>h))).trans S8) GL8))
  clear L8 S8 GL8 TF HS
  go_wp2
  go_end0
  exact ⟨rfl,own8,g8,(uH HE).1,(uH HE).2.1,(uH HE).2.2⟩
end
end Go.Proofs.YtpdkojgepagbnaaGreatDoor
