/-
  A cache's entries, told in a fresh list.
  What the program answers where a call is wrong: nothing changes.
  A cache's entries, told on the plain tier: no more than may be, of different keys.
-/
import Derived.Test.YtpdkojgepagbnaaGreatDoorJ27
namespace Go.Proofs.YtpdkojgepagbnaaGreatDoor
set_option maxRecDepth 100000
set_option maxHeartbeats 8000000
section
open Go.RowKit
open Tier (Mes Ans Conf)
attribute [local go_sem ↓] Go.wp_at_zero Go.wp_at_succ
def seeL (e:See):List Value:=[.string e.key,.int .i64 e.ver,.int .i64 e.pres,.string e.val,.int .i64 e.age]
theorem infoSee:(Tryz.prog.info? 66).map (fun i=>(i.zero,i.size,i.bytes))=some (some (.agg #[.string ⟨#[]⟩,.int .i64 0,.int .i64 0,.string ⟨#[]⟩,.int .i64 0]),5,56):=by kernel_rfl
structure EntLoop (w1 wr:World) (v:Value) (L:List See):Prop where
  turn:Turn nO w1 wr
  row:wr.ownsRow w1.heap.size 66 5 v L.length ((L.map seeL).flatten)
theorem owns_base' {w:World} {base base' e s n:Nat} {v:Value} {xs:List Value} (h:w.ownsRow base e s v n xs) (hb:base'≤base):w.ownsRow base' e s v n xs:=by
  obtain ⟨hl,hv⟩:=h
  refine ⟨hl,?_⟩
  rcases hv with hv|⟨g,cap,cur,h1,h2,h3⟩
  ·exact Or.inl hv
  ·exact Or.inr ⟨g,cap,cur,h1,Nat.le_trans hb h2,h3⟩
theorem owns_turn' {w w':World} {base e s n:Nat} {v:Value} {xs:List Value} (h:w.ownsRow base e s v n xs) (T:Turn nO w w'):w'.ownsRow base e s v n xs:=by
  obtain ⟨hl,hv⟩:=h
  refine ⟨hl,?_⟩
  rcases hv with hv|⟨g,cap,cur,h1,h2,h3,h4⟩
  ·exact Or.inl hv
  ·exact Or.inr ⟨g,cap,cur,h1,h2,(T.block g (heap_lt h3) id).trans h3,h4⟩
def PS.seeAt (s:PS) (n:Nat) (k:ByteArray):See:=seen k ((s.entry n k).getD noEnt) (ageAt s.c.drift (s.clk n) ((s.entry n k).getD noEnt))
theorem Entries_any (own:Own) (τ bt:Nat) (g:Gh) (s:PS) (n:Nat) (w:World) (h:Lies own τ w bt g s) (hf:s.Fine) (hn:n<6) (hp:s.c.parents.length≤6) (hc:Nums.inB (n:Int) 1 ((s.c.parents.length:Int) - 1)=true) (hl:(s.used n).length≤1000) (hk:∀ k∈s.used n,k.size≤100) (hne:noEnt.Fine (s.clk n)) :
    Calls Tryz.prog 35 #[.pointer (some ⟨bt,0,none⟩),.int .i64 (n:Int)] w fun r w'=>∃ (v:Value) (L:List See),r= .returned (.tuple #[v,.int .i64 0])∧Turn nO w w'∧w'.ownsRow w.heap.size 66 5 v L.length ((L.map seeL).flatten)∧L=(s.used n).map (s.seeAt n):=by
 obtain ⟨i0,hi,hz0,hz1,hz2⟩:=info_parts infoSee
 have HH:=hide h
 have KC:=hide (isCache_any own τ bt g s (n:Int) w h hp)
 rw [hc] at KC
 have KK:=hide (fun w' (T:Turn nO w w')=>Keys_any own τ bt g s n w' (h.turn T) hn hl)
 have d12:w.cell? ⟨bt,12,none⟩=some (.pointer (some ⟨g.be,0,none⟩)):=cOf h.tier.block 12
 have KA:Hid (∀ k,k∈s.used n→∃ e:Ent,∃ b:Bool,(e.Fine (s.clk n)∧e=(s.entry n k).getD noEnt)∧∀ w',Turn nO w w'→Calls Tryz.prog 65 #[.pointer (some ⟨g.be,0,none⟩),placeV (n,k)] w' fun e' w''=>e'= .returned (.tuple #[entV e,.bool b])∧Turn nO w' w''):=fun k hkm=>by
   refine ⟨(s.entry n k).getD noEnt,(s.entry n k).isSome,⟨?_,rfl⟩,fun w' T=>At_lies n k w' (h.turn T) (by omega) (hk k hkm)⟩
   cases he:s.entry n k with
   | none=>exact hne
   | some e=>exact (hf.ents _ (aget_mem he)).1
 have KS:Hid (∀ (e:Ent) (k:ByteArray),e.Fine (s.clk n)→∀ w',Turn nO w w'→Calls Tryz.prog 66 #[.pointer (some ⟨bt,0,none⟩),placeV (n,k),entV e] w' fun r w''=>r= .returned (seeV (seen k e (ageAt s.c.drift (s.clk n) e)))∧Turn nO w' w''):=fun e k he w' T=>shown_any bt (s.ts g) n k e w' (h.turn T).tier (hf.ts g) hn he
 have hbt:=heap_lt h.tier.block
 clear h hf hk hne hc hp
 go_enter Tryz.func35,Tryz.ntmps35
 go_wp2_with fail
 refine (uH KC).mono ?_
 rintro e w0 ⟨rfl,rfl⟩
 go_wp2_with fail
 refine (uH KK w0 (Turn.refl _ _)).mono ?_
 rintro e w1 ⟨kv,rfl,T1,R1⟩
 obtain ⟨ka,kc,hkv⟩:=row_form R1
 subst hkv
 have HT1:=hide T1
 have d1:=T1.cell d12 id
 have hkey:Hid (∀ j k,(s.used n)[j]?=some k→∃ kb,ka=some ⟨kb,0,none⟩∧w1.cell? ⟨kb,j,none⟩=some (.string k)):=fun j k hj=>by
   have hjl:=(List.getElem?_eq_some_iff.1 hj).1
   obtain ⟨_,⟨_,h0⟩|⟨kb,cap',cur,hv,_⟩⟩:=id R1
   ·omega
   ·cases hv
    refine ⟨kb,rfl,?_⟩
    rw [R1.cellAt j (by omega),List.getElem?_map,hj];rfl
 have HR0:Hid (EntLoop w1 w1 (.slice none 0 0) []):=⟨Turn.refl _ _,World.ownsRow_nil _ _ _ _⟩
 have hb1:bt<w1.heap.size:=Nat.lt_of_lt_of_le hbt T1.size
 generalize hN:(s.used n).length=N at *
 clear T1 R1 KC KK d12 hbt
 go_wp2
 go_loopw [6,8,9,10,11,23] (fun v _ _ _ _ i wr=>∃ (j:Nat) (L:List See),j≤N∧i= .int .i64 (j:Int)∧Hid (EntLoop w1 wr v L)∧Hid (L=((s.used n).take j).map (s.seeAt n))) (fun _ _ _ _ _ i _=>N - (intOf i).toNat)
 case atStart=>exact ⟨0,[],Nat.zero_le _,rfl,HR0,rfl⟩
 case round =>
   clear HR0
   obtain ⟨j,L,jn,rfl,HR,HL⟩:=hrel
   have hj6:IntKind.i64.wrap ((j:Int)+1)=(j:Int)+1:=by rw [IntKind.wrap_i64];omega
   by_cases hlt:j<N
   ·obtain ⟨va,vc,hv⟩:=row_form (uH HR).row
    subst hv
    have hLl:Hid (L.length=j):=by
      show L.length=j
      have:=congrArg List.length (uH HL)
      rw [List.length_map,List.length_take,hN] at this
      omega
    obtain ⟨k,hk⟩:∃ k,(s.used n)[j]?=some k:=⟨_,List.getElem?_eq_getElem (by omega)⟩
    obtain ⟨kb,rfl,hkc⟩:=uH hkey j k hk
    have hkr:wr.cell? ⟨kb,j,none⟩=some (.string k):=(uH HR).turn.cell hkc id
    have d2:wr.cell? ⟨bt,12,none⟩=some (.pointer (some ⟨g.be,0,none⟩)):=(uH HR).turn.cell d1 id
    obtain ⟨e,b,⟨hfe,hee⟩,KA1⟩:=uH KA k (List.mem_of_getElem? hk)
    have KA1:=hide KA1
    have KS1:=hide (uH KS e k hfe)
    have TW:Turn nO w0 wr:=(uH HT1).sT (uH HR).turn (fun _ _ h=>h)
    have HTW:=hide TW
    have i0':(0:Int)≤(j:Int):=by omega
    have i1':(j:Int)<(N:Int):=by omega
    generalize hse:seen k e (ageAt s.c.drift (s.clk n) e)=see at *
    have hkk:Hid (see=s.seeAt n k):=by show see=s.seeAt n k;rw [← hse,hee];rfl
    clear hee
    have hbr:bt<wr.heap.size:=Nat.lt_of_lt_of_le hb1 (uH HR).turn.size
    obtain ⟨ver,pres,val,base,since⟩:=e
    obtain ⟨sk,sv,sp,sx,sa⟩:=see
    simp only [entV,placeV,seeV] at KA1 KS1
    clear TW hkc hse hfe
    go_wp2
    generalize hX:World.alloc _ _=X
    have TX:Turn nO wr X:=by rw [← hX];exact Turn.alloc _ _ _
    have hXs:X.heap.size=wr.heap.size+1:=by rw [← hX];simp
    have x0:X.cell? ⟨wr.heap.size,0,none⟩=some (.int .i64 (n:Int)):=by rw [← hX];exact cOf (new1_0 wr _) 0
    have x1:X.cell? ⟨wr.heap.size,1,none⟩=some (.string k):=by rw [← hX];exact cOf (new1_0 wr _) 1
    have d3:=TX.cell d2 id
    have HTX:=hide TX
    have hwr:wr.heap.size<X.heap.size:=by omega
    have hbX:bt<X.heap.size:=by omega
    have hsz:X.heap.size=wr.heap.size+1:=hXs
    have KA2:=hide (fun w' (T:Turn nO X w')=>uH KA1 w' ((uH HTW).sT ((uH HTX).sT T (fun _ _ h=>h)) (fun _ _ h=>h)))
    clear hX TX hXs d2 hkr KA1
    go_cut [10] from 24 to 46 (fun s10 wx=>∃ eb,s10= .pointer (some ⟨eb,0,none⟩)∧Hid (Turn nO X wx∧wx.cell? ⟨eb,0,none⟩=some (.int .i64 ver)∧wx.cell? ⟨eb,1,none⟩=some (.int .i64 pres)∧wx.cell? ⟨eb,2,none⟩=some (.string val)∧wx.cell? ⟨eb,3,none⟩=some (.int .i64 base)∧wx.cell? ⟨eb,4,none⟩=some (.int .i64 since)))
    case first =>
      have HS:=fun w' (T:Turn nO X w')=>And.intro T (And.intro (T.cell x0 id) (And.intro (T.cell x1 id) (T.cell d3 id)))
      go_region_held3 (fun w'=>Turn nO X w'∧w'.cell? ⟨wr.heap.size,0,none⟩=some (.int .i64 (n:Int))∧w'.cell? ⟨wr.heap.size,1,none⟩=some (.string k)∧w'.cell? ⟨bt,12,none⟩=some (.pointer (some ⟨g.be,0,none⟩))) ((go_split_ands;apply HS;all_goals (repeat (first|(with_reducible first|assumption|exact Turn.refl _ _|apply Turn.sA|apply Turn.sD|refine tN ?_ (by assumption))|((with_reducible refine Turn.sS ?_ ?_);rotate_left;· first|exact Or.inr rfl|exact Or.inr (Or.inl rfl)|exact Or.inl (by simp <;> omega))|(with_reducible refine tG ?_ (by assumption))|(with_reducible first|apply There.drew|apply There.set|refine hNo ?_ (by assumption))|assumption)))) (first|(go_at_call 65;go_split_ands;refine (uH KA2 _ (by assumption)).mono ?_;rintro e wq ⟨rfl,TC⟩;(try (have TH:=there_new (n:=4) TC hsz (by simp);have q0:=peek_some (TH.are 0 (by omega));have q1:=peek_some (TH.are 1 (by omega));have q2:=peek_some (TH.are 2 (by omega));have q3:=peek_some (TH.are 3 (by omega));have q4:=peek_some (TH.are 4 (by omega));have r0:=TH.free 0;have r1:=TH.free 1;have r2:=TH.free 2;have r3:=TH.free 3;have r4:=TH.free 4))))
      all_goals go_split_ands
      all_goals clear HS
      ·generalize hY:World.alloc _ _=Y
       have TY:Turn nO X Y:=by rw [← hY];assumption
       have z0:Y.cell? ⟨wq.heap.size,0,none⟩=some (.int .i64 ver):=by rw [← hY];exact cOf (new1_0 wq _) 0
       have z1:Y.cell? ⟨wq.heap.size,1,none⟩=some (.int .i64 pres):=by rw [← hY];exact cOf (new1_0 wq _) 1
       have z2:Y.cell? ⟨wq.heap.size,2,none⟩=some (.string val):=by rw [← hY];exact cOf (new1_0 wq _) 2
       have z3:Y.cell? ⟨wq.heap.size,3,none⟩=some (.int .i64 base):=by rw [← hY];exact cOf (new1_0 wq _) 3
       have z4:Y.cell? ⟨wq.heap.size,4,none⟩=some (.int .i64 since):=by rw [← hY];exact cOf (new1_0 wq _) 4
       have HE:=hide (And.intro TY (And.intro z0 (And.intro z1 (And.intro z2 (And.intro z3 z4)))))
       clear hY TC TY z0 z1 z2 z3 z4
       go_wp2
       go_meet
       exact ⟨_,rfl,HE⟩
      ·generalize hY:World.setCell _ _ _=Y
       have TY:Turn nO X Y:=by rw [← hY];assumption
       have z0:Y.cell? ⟨wr.heap.size+1,0,none⟩=some (.int .i64 ver):=by rw [← hY];simp [go_sem,TH.are 0 (by omega)]
       have z1:Y.cell? ⟨wr.heap.size+1,1,none⟩=some (.int .i64 pres):=by rw [← hY];simp [go_sem,TH.are 1 (by omega)]
       have z2:Y.cell? ⟨wr.heap.size+1,2,none⟩=some (.string val):=by rw [← hY];simp [go_sem,TH.are 2 (by omega)]
       have z3:Y.cell? ⟨wr.heap.size+1,3,none⟩=some (.int .i64 base):=by rw [← hY];simp [go_sem,TH.are 3 (by omega)]
       have z4:Y.cell? ⟨wr.heap.size+1,4,none⟩=some (.int .i64 since):=by rw [← hY];simp [go_sem,TH.are 4 (by omega)]
       have HE:=hide (And.intro TY (And.intro z0 (And.intro z1 (And.intro z2 (And.intro z3 z4)))))
       clear hY TC TY z0 z1 z2 z3 z4 TH q0 q1 q2 q3 q4 r0 r1 r2 r3 r4
       go_wp2
       go_meet
       exact ⟨_,rfl,HE⟩
    case rest =>
      obtain ⟨eb,rfl,HC⟩:=hcut
      rename World=>V
      have TV:=(uH HC).1
      have v0:=TV.cell x0 id
      have v1:=TV.cell x1 id
      obtain ⟨_,e0,e1,e2,e3,e4⟩:=uH HC
      have KS2:=hide (fun w' (T:Turn nO V w')=>uH KS1 w' ((uH HTW).sT ((uH HTX).sT (TV.sT T (fun _ _ h=>h)) (fun _ _ h=>h)) (fun _ _ h=>h)))
      have HTV:=hide (show Turn nO wr V from (uH HTX).sT TV (fun _ _ h=>h))
      have hbV:bt<V.heap.size:=Nat.lt_of_lt_of_le hbX TV.size
      clear KS1 KA2 x0 x1 d3 HC TV hsz
      go_wp2_with fail
      refine (uH KS2 V (Turn.refl _ _)).mono ?_
      rintro e w2 ⟨rfl,T2⟩
      have hN2:=hide (owns_turn' (uH HR).row ((uH HTV).sT T2 (fun _ _ h=>h)))
      have HT2:=hide ((uH HR).turn.sT ((uH HTV).sT T2 (fun _ _ h=>h)) (fun _ _ h=>h))
      have hw12:w1.heap.size≤w2.heap.size:=(uH HT2).size
      have hown0:Hid (∀ k',some k'=(Value.slice va L.length vc).ownBlock→w1.heap.size≤k'):=fun k' hk'=>(uH HR).row.lt k' hk'.symm |>.1
      have hfl:Hid (((L ++ [See.mk sk sv sp sx sa]).map seeL).flatten=(L.map seeL).flatten ++ [.string sk,.int .i64 sv,.int .i64 sp,.string sx,.int .i64 sa]):=by
        show _=_
        simp [seeL]
      have hkeys:Hid (L ++ [See.mk sk sv sp sx sa]=((s.used n).take (j+1)).map (s.seeAt n)):=by
        show _=_
        rw [List.take_add_one,hk,List.map_append,← uH HL,uH hkk]
        rfl
      have HLN:Hid (L.length≤1000):=by have:=uH hLl;show L.length≤1000;omega
      clear HR HL T2 KS2 v0 v1 e0 e1 e2 e3 e4 HTV hkk
      generalize hxs:(L.map seeL).flatten=xs at *
      generalize hm:L.length=m at *
      go_wp2_with (at_builtin;refine wpList_append_lies _ (by rfl) _ _ _ (by rfl) w1.heap.size 66 i0 _ 5 56 Tryz.underlying64 hi hz0 hz1 hz2 rfl (by omega) (.slice va m vc) m xs ?c1 ?c2 ⟨w2.heap.size,0,none⟩ 1 1 [.string sk,.int .i64 sv,.int .i64 sp,.string sx,.int .i64 sa] ?c3 ?c4 ?c5 ?c6 ?c7 ?c8 ?c9 ?c10 (w2.heap.size+1) ?c11 ?_)
      case c1=>rfl
      case c2=>exact (uH hN2).alloc _
      case c3=>rfl
      case c4=>rfl
      case c5=>exact World.news_of_block (cs:=#[.string sk,.int .i64 sv,.int .i64 sp,.string sx,.int .i64 sa]) (t:=66) (fr:=(0,0)) (new1_0 w2 _)
      case c6=>simp [Value.oneCell']
      case c7=>omega
      case c8=>have:=uH HLN;unfold maxLen;omega
      case c9=>have:=uH HLN;omega
      case c10=>simp;omega
      case c11=>simp
      intro gb cap2 w5 hown1 hgrow hat hlt5
      have HR':Hid (EntLoop w1 w5 (.slice (some ⟨gb,0,none⟩) (m+1) cap2) (L ++ [See.mk sk sv sp sx sa])):=by
        refine ⟨((uH HT2).sA).sT (Turn.grown hgrow) (fun k' hk' h=>absurd (uH hown0 k' h) (by omega)),?_⟩
        rw [uH hfl,List.length_append,hm]
        exact hown1
      clear hown1 hgrow hat hN2 HT2
      go_wp2
      go_roundw
      case rel=>exact ⟨j+1,_,by omega,by go_num,HR',hkeys⟩
      case measure=>simp [intOf];omega
   ·have hj:j=N:=by omega
    have HE:=hide (And.intro (uH HR).turn (uH HR).row)
    have hfin:Hid (L=(s.used n).map (s.seeAt n)):=by
      show _=_
      rw [uH HL,hj,← hN,List.take_length]
    obtain ⟨va,vc,hv⟩:=row_form (uH HR).row
    subst hv
    clear HR HL
    go_wp2
    exact bodyPost_ret (v:= .tuple #[.slice va L.length vc,.int .i64 0]) (by simp [results,Tryz.results35,go_sem]) rfl ⟨_,L,rfl,(uH HT1).sT (uH HE).1 (fun _ _ h=>h),owns_base' (uH HE).2 (uH HT1).size,uH hfin⟩
theorem OWrite_key (bo:Nat) (k v:ByteArray) (w:World) (hK:KeyTab w) (hks:k.size≤maxLen) (hk:keyB k=false) :
    Calls Tryz.prog 69 #[.pointer (some ⟨bo,0,none⟩),.string k,.string v] w fun r w'=>r= .returned (.int .i64 3)∧Turn nO w w':=by
 have KI:=hide (isKey_any k w hks hK)
 rw [hk] at KI
 clear hK hks hk
 go_enter Tryz.func69,Tryz.ntmps69
 go_wp2_with fail
 refine (uH KI).mono ?_
 rintro e w1 ⟨rfl,rfl⟩
 go_wp2
 go_ret
 exact ⟨rfl,by (repeat (first|(with_reducible first|assumption|exact Turn.refl _ _|apply Turn.sA|apply Turn.sD|refine tN ?_ (by assumption))|((with_reducible refine Turn.sS ?_ ?_);rotate_left;· first|exact Or.inr rfl|exact Or.inr (Or.inl rfl)|exact Or.inl (by simp <;> omega))|(with_reducible refine tG ?_ (by assumption))|(with_reducible first|apply There.drew|apply There.set|refine hNo ?_ (by assumption))|assumption))⟩
theorem OWrite_value (bo:Nat) (k v:ByteArray) (w:World) (hK:KeyTab w) (hk:keyB k=true) (hv:valB v=false) :
    Calls Tryz.prog 69 #[.pointer (some ⟨bo,0,none⟩),.string k,.string v] w fun r w'=>r= .returned (.int .i64 4)∧Turn nO w w':=by
 have hks:=keyB_le hk
 have KI:=hide (isKey_any k w (by unfold maxLen;omega) hK)
 rw [hk] at KI
 have KV:=hide (isValue_any v w)
 rw [hv] at KV
 clear hK hks hk hv
 go_enter Tryz.func69,Tryz.ntmps69
 go_wp2_with fail
 refine (uH KI).mono ?_
 rintro e w1 ⟨rfl,rfl⟩
 go_wp2_with fail
 refine (uH KV).mono ?_
 rintro e w1 ⟨rfl,rfl⟩
 go_wp2
 go_ret
 exact ⟨rfl,by (repeat (first|(with_reducible first|assumption|exact Turn.refl _ _|apply Turn.sA|apply Turn.sD|refine tN ?_ (by assumption))|((with_reducible refine Turn.sS ?_ ?_);rotate_left;· first|exact Or.inr rfl|exact Or.inr (Or.inl rfl)|exact Or.inl (by simp <;> omega))|(with_reducible refine tG ?_ (by assumption))|(with_reducible first|apply There.drew|apply There.set|refine hNo ?_ (by assumption))|assumption))⟩
theorem OWrite_full (own:Own) (τ bt:Nat) (g:Gh) (s:PS) (k v:ByteArray) (w:World) (h:Lies own τ w bt g s) (hK:KeyTab w) (hk:keyB k=true) (hv:valB v=true) (hr:aget s.recs k=none) (hl:16≤s.recs.length) :
    Calls Tryz.prog 69 #[.pointer (some ⟨g.bo,0,none⟩),.string k,.string v] w fun r w'=>r= .returned (.int .i64 7)∧Turn nO w w':=by
 have hks:=keyB_le hk
 have KI:=hide (isKey_any k w (by unfold maxLen;omega) hK)
 rw [hk] at KI
 have KV:=hide (isValue_any v w)
 rw [hv] at KV
 have d0:w.cell? ⟨g.bo,0,none⟩=some (.map (some g.bm)):=cOf h.orig 0
 have hbm:g.bm<w.heap.size:=h.recs.lt
 have hbo:g.bo<w.heap.size:=heap_lt h.orig
 have HK:Hid (∀ w':World,w'.heap[g.bm]?=w.heap[g.bm]?→(Instr.lookup 109 (.map (some g.bm)) (.string k) true).run Tryz.prog w'= .ok (.tuple #[.agg #[.int .i64 0,.int .i64 0,.string ⟨#[]⟩],.bool false]) w'):=fun w' e=>by
   have:=rec_look2 (h.recs.heap e) (k:=k) (by unfold maxLen;omega)
   rw [hr] at this
   exact this
 have HN:Hid (∀ w':World,w'.heap[g.bm]?=w.heap[g.bm]?→(Builtin.len_ #[109] 3 #[.map (some g.bm)]).run Tryz.prog w'= .ok (.int .i64 (s.recs.length:Int)) w'):=fun w' e=>by
   have:=(h.recs.heap e).len Tryz.underlying109 3
   simpa [rawL] using this
 have hl':(16:Int)≤(s.recs.length:Int):=by omega
 clear h hK hk hv hr hl
 go_enter Tryz.func69,Tryz.ntmps69
 go_wp2_with fail
 refine (uH KI).mono ?_
 rintro e w1 ⟨rfl,rfl⟩
 go_wp2_with fail
 refine (uH KV).mono ?_
 rintro e w1 ⟨rfl,rfl⟩
 have hlk:=uH HK w1 rfl
 have hln:=uH HN (w1.alloc (.cells #[.int .i64 0,.int .i64 0,.string ⟨#[]⟩] 169)) ((Turn.alloc nO w1 _).block _ hbm id)
 go_wp2
 go_ret
 exact ⟨rfl,by (repeat (first|(with_reducible first|assumption|exact Turn.refl _ _|apply Turn.sA|apply Turn.sD|refine tN ?_ (by assumption))|((with_reducible refine Turn.sS ?_ ?_);rotate_left;· first|exact Or.inr rfl|exact Or.inr (Or.inl rfl)|exact Or.inl (by simp <;> omega))|(with_reducible refine tG ?_ (by assumption))|(with_reducible first|apply There.drew|apply There.set|refine hNo ?_ (by assumption))|assumption))⟩
theorem Write_call (own:Own) (τ bt:Nat) (g:Gh) (s:PS) (k v:ByteArray) (er:Int) (w:World) (h:Lies own τ w bt g s)
    (KO:Calls Tryz.prog 69 #[.pointer (some ⟨g.bo,0,none⟩),.string k,.string v] w fun r w'=>r= .returned (.int .i64 er)∧Turn nO w w') :
    Calls Tryz.prog 37 #[.pointer (some ⟨bt,0,none⟩),.string k,.string v] w fun r w'=>r= .returned (.int .i64 er)∧Turn nO w w':=by
 have KO:=hide KO
 have d5:w.cell? ⟨bt,5,none⟩=some (.pointer (some ⟨g.bo,0,none⟩)):=cOf h.tier.block 5
 clear h
 go_enter Tryz.func37,Tryz.ntmps37
 go_wp2_with fail
 refine (uH KO).mono ?_
 rintro e w1 ⟨rfl,HE⟩
 have HE:=hide HE
 go_wp2
 go_ret
 exact ⟨rfl,uH HE⟩
theorem ORemove_key (bo:Nat) (k:ByteArray) (w:World) (hK:KeyTab w) (hks:k.size≤maxLen) (hk:keyB k=false) :
    Calls Tryz.prog 73 #[.pointer (some ⟨bo,0,none⟩),.string k] w fun r w'=>r= .returned (.int .i64 3)∧Turn nO w w':=by
 have KI:=hide (isKey_any k w hks hK)
 rw [hk] at KI
 clear hK hks hk
 go_enter Tryz.func73,Tryz.ntmps73
 go_wp2_with fail
 refine (uH KI).mono ?_
 rintro e w1 ⟨rfl,rfl⟩
 go_wp2
 go_ret
 exact ⟨rfl,by (repeat (first|(with_reducible first|assumption|exact Turn.refl _ _|apply Turn.sA|apply Turn.sD|refine tN ?_ (by assumption))|((with_reducible refine Turn.sS ?_ ?_);rotate_left;· first|exact Or.inr rfl|exact Or.inr (Or.inl rfl)|exact Or.inl (by simp <;> omega))|(with_reducible refine tG ?_ (by assumption))|(with_reducible first|apply There.drew|apply There.set|refine hNo ?_ (by assumption))|assumption))⟩
theorem Remove_key (own:Own) (τ bt:Nat) (g:Gh) (s:PS) (k:ByteArray) (w:World) (h:Lies own τ w bt g s) (hK:KeyTab w) (hks:k.size≤maxLen) (hk:keyB k=false) :
    Calls Tryz.prog 39 #[.pointer (some ⟨bt,0,none⟩),.string k] w fun r w'=>r= .returned (.int .i64 3)∧Turn nO w w' :=
 Remove_call own τ bt g s k 3 (fun w'=>Turn nO w w') w h (ORemove_key g.bo k w hK hks hk)
theorem Entries_node (own:Own) (τ bt:Nat) (g:Gh) (s:PS) (i:Int) (w:World) (h:Lies own τ w bt g s) (hp:s.c.parents.length≤6) (hc:Nums.inB i 1 ((s.c.parents.length:Int) - 1)=false) :
    Calls Tryz.prog 35 #[.pointer (some ⟨bt,0,none⟩),.int .i64 i] w fun r w'=>r= .returned (.tuple #[.slice none 0 0,.int .i64 2])∧w'=w:=by
 have KC:=hide (isCache_any own τ bt g s i w h hp)
 rw [hc] at KC
 clear h hc hp
 go_enter Tryz.func35,Tryz.ntmps35
 go_wp2_with fail
 refine (uH KC).mono ?_
 rintro e w1 ⟨rfl,rfl⟩
 go_wp2
 exact bodyPost_ret (v:= .tuple #[.slice none 0 0,.int .i64 2]) (by simp [results,Tryz.results35,go_sem]) rfl ⟨rfl,rfl⟩
end
end Go.Proofs.YtpdkojgepagbnaaGreatDoor
