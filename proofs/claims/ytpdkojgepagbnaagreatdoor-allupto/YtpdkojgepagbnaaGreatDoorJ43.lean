/-
  A step as plain data; both calls of one step.
  New: the program's tier and the document's beside it, or none.
  A step: every kind.
  Net: what came out is as the document has it; then it is written over, and kept.
  A step on one of the tiers.
-/
import Derived.Test.YtpdkojgepagbnaaGreatDoorJ36
import Derived.Test.YtpdkojgepagbnaaGreatDoorJ37
import Derived.Test.YtpdkojgepagbnaaGreatDoorJ42
import Derived.Test.YtpdkojgepagbnaaGreatDoorJ28
namespace Go.Proofs.YtpdkojgepagbnaaGreatDoor
set_option maxRecDepth 100000
set_option maxHeartbeats 8000000
section
open Go.RowKit Go.Deep
open Tier (Mes Ans Conf St)
attribute [local go_sem ↓] Go.wp_at_zero Go.wp_at_succ
structure OpD where
  kind:Int
  on:Int
  a:Int
  b:Int
  s:ByteArray
  t:ByteArray
  pa:Option Addr
  pc:Nat
  zs:List Int
  dr:Int
  bu:Int
  en:Int
  wa:Int
  m:Msg
def OpD.cells (o:OpD):Array Value:=opC o.kind o.on o.a o.b o.s o.t o.pa o.zs.length o.pc o.dr o.bu o.en o.wa o.m
def OpD.val (o:OpD):Value:= .agg o.cells
def prV (bt br:Nat):Value:= .agg #[.pointer (some ⟨bt,0,none⟩),.pointer (some ⟨br,0,none⟩)]
theorem Both.mk' {own own1 own2:Own} {τ1 τ2:Nat} {w W0 w1 w2 w3:World} {bt br b:Nat} {t:St} {g:RGh} (hne:τ1≠τ2) (T0:Turn nO w W0) (S1:Step τ1 own own1 W0 w1) (A1:TierAt own1 τ1 w1 bt b t) (S2:Step τ2 own1 own2 w1 w2) (R2:RLies own2 τ2 w2 br g t) (T3:Turn nO w2 w3):Both own τ1 τ2 w bt br b t own2 w3 :=
  ⟨⟨own1,w1,(Step.of_turn T0).trans S1,S2.trans (Step.of_turn T3)⟩,(A1.frame (S2.other hne) R2.top).turn T3,⟨g,R2.turn T3⟩⟩
structure Leave2 (own:Own) (τ1 τ2:Nat) (w:World) (bt br b:Nat) (w':World):Prop where
  is:∃ own' t',Both own τ1 τ2 w bt br b t' own' w'
theorem box2_0 {w W:World} {o0 o1:Obj} (h:(w.alloc o0).alloc o1=W):W.heap[w.heap.size]?=some o0:=by rw [← h];exact new2_0 _ _ _
theorem box2_1 {w W:World} {o0 o1:Obj} (h:(w.alloc o0).alloc o1=W):W.heap[w.heap.size+1]?=some o1:=by rw [← h];exact new2_1 _ _ _
theorem chgC {own own1:Own} {τ B:Nat} {W w1:World} {t1 t2:TypeId} {p q v0 v1 v2 v3 v4 v5 v6 v7 v8 v9 v10 v11 v12 v13 v14 v15 v16 v17 v18 v19:Value} (S:Step τ own own1 W w1) (b0:W.heap[B]?=some (.cells #[p,q] t1 (0,0))) (b1:W.heap[B+1]?=some (.cells #[v0,v1,v2,v3,v4,v5,v6,v7,v8,v9,v10,v11,v12,v13,v14,v15,v16,v17,v18,v19] t2 (0,0))) (h:∀ k,B≤k→own k=none) :
    w1.cell? ⟨B,1,none⟩=some q∧w1.cell? ⟨B+1,2,none⟩=some v2∧w1.cell? ⟨B+1,3,none⟩=some v3∧w1.cell? ⟨B+1,4,none⟩=some v4∧w1.cell? ⟨B+1,5,none⟩=some v5 :=
 ⟨S.cell (cOf b0 1) (h _ (Nat.le_refl _)),S.cell (cOf b1 2) (h _ (Nat.le_succ _)),S.cell (cOf b1 3) (h _ (Nat.le_succ _)),S.cell (cOf b1 4) (h _ (Nat.le_succ _)),S.cell (cOf b1 5) (h _ (Nat.le_succ _))⟩
theorem mark_any (k:Nat) (hk:k≤1000000000) (w:World):Calls Tryz.prog 21 #[.int .i64 (k:Int)] w fun e w'=>e= .returned (.int .i64 (mkI k))∧w'=w:=by
  have h1:wrap64 ((k:Int) / 4)=(k:Int) / 4:=by unfold wrap64;omega
  have h2:wrap64 (-1000 - (k:Int) / 4)=mkI k:=by unfold mkI wrap64;omega
  clear hk
  go_enter Tryz.func21,Tryz.ntmps21
  go_wp2
  go_ret
  rw [h1,h2]
  exact ⟨rfl,rfl⟩
end
section
open Go.RowKit Go.Deep
open Tier (Mes Ans Conf St)
attribute [local go_sem ↓] Go.wp_at_zero Go.wp_at_succ
variable {own:Own} {w w0:World} {bw B:Nat} {g:LG} {ps:List PairD}
theorem infoPr:(Tryz.prog.info? 54).map (fun i=>(i.zero,i.size,i.bytes))=some (some (.agg #[.pointer none,.pointer none]),2,16):=by kernel_rfl
def cfgV (a:Option Addr) (n cap:Nat) (dr bu en wa:Int):Value:= .agg #[.slice a n cap,.int .i64 dr,.int .i64 bu,.int .i64 en,.int .i64 wa]
theorem below_turn {w w':World} (T:Turn nO w w'):Below w.heap.size w w':=⟨T.os,T.tape,T.output,T.size,fun k hk=>T.block k hk id⟩
theorem made_wrong (L:LawAt own w0 w bw B g ps) (a:Option Addr) (cap:Nat) (zs:List Int) (dr bu en wa:Int) (hz:zs.length≤17592186044416) (hs:SliceAt w a zs) (hc:confB zs dr bu en wa=false) :
    Calls Tryz.prog 6 #[.pointer (some ⟨bw,0,none⟩),cfgV a zs.length cap dr bu en wa] w fun r w'=>r= .returned (.bool true)∧LawOn w0 bw (B+5) w':=by
 have hzm:zs.length≤maxLen:=by unfold maxLen;omega
 have HL:Hid (∀ w',Turn nO w w'→LawOn w0 bw (B+5) w'):=fun w' T=>⟨own,g,ps,(L.turn T).mono (by omega)⟩
 have HS:=hide hs
 have KL:=hide (fun w' (h:SliceAt w' a zs)=>lent_any a cap zs dr bu en wa w' hz h)
 have KB:=hide (fun w' B h h2=>back_turn a cap zs dr bu en wa w' B hz h h2)
 have KF:=hide (fun w' (h:SliceAt w' a zs)=>refRight_any a cap zs dr bu en wa w' hzm h)
 rw [hc] at KF
 have e1:errOf false=1:=rfl
 rw [e1] at KF
 have KN:=hide (fun w' B h=>New_wrong (some ⟨B,0,none⟩) (zs.length+1) zs dr bu en wa w' hzm h hc)
 generalize hzl:zs.length=zl at *
 clear L hz hzm hs hc e1
 unfold cfgV
 go_enter Tryz.func6,Tryz.ntmps6
 go_wp2_with fail
 generalize hW:World.alloc _ _=W0
 have T0:Turn nO w W0:=by rw [← hW];exact Turn.alloc _ _ _
 have L0:Below w.heap.size w W0:=by rw [← hW];exact below_alloc1 _ _
 have b0:W0.heap[w.heap.size]?=some (.cells #[.slice a zl cap,.int .i64 dr,.int .i64 bu,.int .i64 en,.int .i64 wa] 35 (0,0)):=by rw [← hW];exact new1_0 _ _
 have hz0:W0.heap.size=w.heap.size+1:=by rw [← hW];simp
 have HZ0:=hide hz0
 clear hz0
 clear hW
 refine (uH KL W0 ((uH HS).below L0)).mono ?_
 rintro e w1 ⟨Bk,rfl,B1,hBk,hB1⟩
 have T1:=Turn.of_below' B1
 have hsB:SliceAt w1 (some ⟨Bk,0,none⟩) zs:=sliceAt_lentP hB1
 have T01:=T0.sT T1 (fun _ _ h=>h)
 have hw1:w.heap.size<w1.heap.size:=Nat.lt_of_lt_of_le (heap_lt b0) T1.size
 have b1:=(T1.block _ (heap_lt b0) id).trans b0
 have HB1:=hide hB1
 have HSB:=hide hsB
 have HBk:=hide hBk
 clear T1 B1 hB1 hsB hBk KL b0
 go_wp2_with fail
 generalize hW2:World.alloc _ _=W2
 have T2:Turn nO w1 W2:=by rw [← hW2];exact Turn.alloc _ _ _
 have L2:Below w1.heap.size w1 W2:=by rw [← hW2];exact below_alloc1 _ _
 clear hW2
 refine (uH KN W2 Bk ((uH HSB).below L2)).mono ?_
 rintro e w3 ⟨rfl,T3⟩
 have T23:=T2.sT T3 (fun _ _ h=>h)
 have b3:=(T23.block _ hw1 id).trans b1
 obtain ⟨y0,y1,y2,y3,y4⟩:=cC5 b3
 have T03:=T01.sT T23 (fun _ _ h=>h)
 have hS3:SliceAt w3 a zs:=(uH HS).below (below_turn T03)
 have hB3:w3.heap[Bk]?=some (.cells (lentCells zs) 3 (0,0)):=(T23.block _ (heap_lt (uH HB1)) id).trans (uH HB1)
 have HK3:=hide (uH KB w3 Bk hS3 hB3)
 have HT03:=hide T03
 have hne:Bk≠w.heap.size:=by have:=uH HBk;have:=uH HZ0;omega
 clear T2 T3 T23 b1 T01 T0 KN L0 L2
 go_wp2_with fail
 refine (uH HK3).mono ?_
 rintro e w4 ⟨rfl,T4⟩
 have b4:=(T4.block _ (heap_lt b3) (fun e=>hne e.symm)).trans b3
 obtain ⟨z0,z1,z2,z3,z4⟩:=cC5 b4
 have hBk':=uH HBk
 have hs03:=T03.size
 have T04:Turn nO w w4:=T03.trans T4 (fun k hk e=>by have:=uH HZ0;omega)
 have hS4:SliceAt w4 a zs:=(uH HS).below (below_turn T04)
 have HK4:=hide (uH KF w4 hS4)
 have HT04:=hide T04
 clear T4 T04 T03 HT03 b3 b4 y0 y1 y2 y3 y4 KF KB HK3 hS3 hS4 hB3 hne hBk' HBk HB1 HSB hw1 hs03
 go_wp2_with fail
 refine (uH HK4).mono ?_
 rintro e w5 ⟨rfl,B5⟩
 have HT05:=hide ((uH HT04).sT (Turn.of_below' B5) (fun _ _ h=>h))
 clear B5 z0 z1 z2 z3 z4 HK4 HT04 HS
 go_wp2_with (go_at_call 13;refine (num_any _ _).mono ?_;rintro e w' ⟨rfl,rfl⟩)
 go_ret
 exact ⟨rfl,uH HL _ (uH HT05)⟩
theorem lent_owns {w:World} {B:Nat} {zs:List Int} (h:w.heap[B]?=some (.cells (lentCells zs) 3 (0,0))) (hz:zs.length+1≤maxLen):w.ownsRow 0 3 1 (.slice (some ⟨B,0,none⟩) zs.length (zs.length+1)) zs.length (zs.map fun z=> .int .i64 z):=by
  refine ⟨by simp,Or.inr ⟨B,zs.length+1,_,rfl,Nat.zero_le _,h,Nat.le_succ _,hz,?_,?_⟩⟩
  ·unfold lentCells intCells
   simp
  ·unfold lentCells intCells
   simp
theorem made_right (L:LawAt own w0 w bw B g ps) (hB:B≤800000) (a:Option Addr) (cap:Nat) (zs:List Int) (dr bu en wa:Int) (hs:SliceAt w a zs) (hc:confB zs dr bu en wa=true) :
    Calls Tryz.prog 6 #[.pointer (some ⟨bw,0,none⟩),cfgV a zs.length cap dr bu en wa] w fun r w'=>r= .returned (.bool true)∧∃ own' g' p,LawAt own' w0 w' bw (B+5) g' (ps ++ [p]):=by
 obtain ⟨pi,phi,pz0,pz1,pz2⟩:=info_parts infoPr
 have hlen:2≤zs.length∧zs.length≤6:=(confB_parts hc).len
 have hz:zs.length≤17592186044416:=by omega
 have hzm:zs.length≤maxLen:=by unfold maxLen;omega
 have HZM:Hid (zs.length+1≤maxLen):=by show _≤_;unfold maxLen;omega
 have HL:=hide L
 have HS:=hide hs
 have KL:=hide (fun w' (h:SliceAt w' a zs)=>lent_any a cap zs dr bu en wa w' hz h)
 have KB:=hide (fun w' B h h2=>back_turn a cap zs dr bu en wa w' B hz h h2)
 have KF:=hide (fun w' (h:SliceAt w' a zs)=>refRight_any a cap zs dr bu en wa w' hzm h)
 have KR:=hide (fun w' (h:SliceAt w' a zs)=>rNew_any a cap zs dr bu en wa w' h hlen)
 rw [hc] at KF
 have e1:errOf true=0:=rfl
 rw [e1] at KF
 have KN:=hide (fun w' B h h2=>New_ok own (2*ps.length+1) (.slice (some ⟨B,0,none⟩) zs.length (zs.length+1)) zs dr bu en wa w' h hc h2)
 obtain ⟨na,nc,hnv⟩:=rowForm L.prs
 have HNV:=hide hnv
 have HPL:Hid (ps.length≤800000):=Nat.le_trans L.few.1 hB
 have hbw0:=L.lt
 generalize hzl:zs.length=zl at *
 generalize hu:Tier.new ⟨zs,dr,bu,en,wa⟩=u at *
 clear L hz hzm hs hc e1 hlen hB hnv
 unfold cfgV
 go_enter Tryz.func6,Tryz.ntmps6
 go_wp2_with fail
 generalize hW:World.alloc _ _=W0
 have T0:Turn nO w W0:=by rw [← hW];exact Turn.alloc _ _ _
 have L0:Below w.heap.size w W0:=by rw [← hW];exact below_alloc1 _ _
 have b0:W0.heap[w.heap.size]?=some (.cells #[.slice a zl cap,.int .i64 dr,.int .i64 bu,.int .i64 en,.int .i64 wa] 35 (0,0)):=by rw [← hW];exact new1_0 _ _
 have hz0:W0.heap.size=w.heap.size+1:=by rw [← hW];simp
 have HZ0:=hide hz0
 clear hz0
 clear hW
 refine (uH KL W0 ((uH HS).below L0)).mono ?_
 rintro e w1 ⟨Bk,rfl,B1,hBk,hB1⟩
 have T1:=Turn.of_below' B1
 have T01:=T0.sT T1 (fun _ _ h=>h)
 have hw1:w.heap.size<w1.heap.size:=Nat.lt_of_lt_of_le (heap_lt b0) T1.size
 have b1:=(T1.block _ (heap_lt b0) id).trans b0
 have HB1:=hide hB1
 have HBk:=hide hBk
 clear T1 B1 hB1 hBk KL b0
 go_wp2_with fail
 generalize hW2:World.alloc _ _=W2
 have T2:Turn nO w1 W2:=by rw [← hW2];exact Turn.alloc _ _ _
 clear hW2
 have T02:=T01.sT T2 (fun _ _ h=>h)
 have hB2:=(T2.block _ (heap_lt (uH HB1)) id).trans (uH HB1)
 have hOW:W2.ownsRow 0 3 1 (.slice (some ⟨Bk,0,none⟩) zl (zl+1)) zl (zs.map fun z=> .int .i64 z):=by rw [← hzl];exact lent_owns hB2 (by rw [hzl];exact uH HZM)
 refine (uH KN W2 Bk hOW (fun k hk=>(uH HL).top k (Nat.le_trans T02.size hk))).mono ?_
 rintro e w3 ⟨bt,own3,rfl,T3,hbt,A3,O3,_⟩
 have T23:=T2.sT T3 (fun _ _ h=>h)
 have b3:=(T23.block _ hw1 id).trans b1
 obtain ⟨y0,y1,y2,y3,y4⟩:=cC5 b3
 have T03:=T01.sT T23 (fun _ _ h=>h)
 have hS3:SliceAt w3 a zs:=(uH HS).below (below_turn T03)
 have hB3:w3.heap[Bk]?=some (.cells (lentCells zs) 3 (0,0)):=(T3.block _ (heap_lt hB2) id).trans hB2
 have HK3:=hide (uH KB w3 Bk hS3 hB3)
 have hne:Bk≠w.heap.size:=by have:=uH HBk;have:=uH HZ0;omega
 have HO3:Hid (∀ k,k<w.heap.size→own3 k=own k):=fun k hk=>O3 k (Nat.lt_of_lt_of_le hk T02.size)
 have HoB:Hid (own3 Bk=none):=(O3 Bk (heap_lt hB2)).trans ((uH HL).top Bk (by have:=uH HBk;have:=uH HZ0;omega))
 have HA3:=hide A3
 clear T2 T3 T23 b1 T01 T0 KN L0 T02 hOW hB2 A3 O3 hbt
 go_wp2_with fail
 refine (uH HK3).mono ?_
 rintro e w4 ⟨rfl,T4⟩
 have b4:=(T4.block _ (heap_lt b3) (fun e=>hne e.symm)).trans b3
 obtain ⟨z0,z1,z2,z3,z4⟩:=cC5 b4
 have T04:Turn nO w w4:=T03.trans T4 (fun k hk e=>by have:=uH HBk;have:=uH HZ0;omega)
 have hS4:SliceAt w4 a zs:=(uH HS).below (below_turn T04)
 have HK4:=hide (uH KF w4 hS4)
 have HT04:=hide T04
 have HA4:Hid (TierAt own3 (2*ps.length+1) w4 bt 0 u):=(uH HA3).frame (fun k hk ⟨x,hx⟩=>⟨T4.block k hk (fun e=>by rw [e,uH HoB] at hx;cases hx),rfl⟩) (fun k hk=>(uH HA3).top k (Nat.le_trans T4.size hk))
 clear T4 T04 T03 b3 y0 y1 y2 y3 y4 KF KB HK3 hS3 hS4 hB3 hne HBk HB1 HoB HA3 hw1
 go_wp2_with fail
 refine (uH HK4).mono ?_
 rintro e w5 ⟨rfl,B5⟩
 have T45:=Turn.of_below' B5
 have T05:=(uH HT04).sT T45 (fun _ _ h=>h)
 have b5:=(T45.block _ (heap_lt b4) id).trans b4
 obtain ⟨x0,x1,x2,x3,x4⟩:=cC5 b5
 have HK5:=hide (uH KR w5 ((uH HS).below (below_turn T05)))
 have HA5:=hide ((uH HA4).turn T45)
 have HT05:=hide T05
 clear B5 T45 T05 b4 b5 z0 z1 z2 z3 z4 HK4 HT04 HS HA4 KR
 go_wp2_with (go_at_call 13;refine (num_any _ _).mono ?_;rintro e w' ⟨rfl,rfl⟩)
 refine (uH HK5).mono ?_
 rintro e w6 ⟨br,rfl,T6,hR⟩
 obtain ⟨own6,rg,R6,O6⟩:=hR own3 (2*ps.length+2) (uH HA5).top
 have T06:=(uH HT05).sT T6 (fun _ _ h=>h)
 have hs05:=(uH HT05).size
 have LW:LawAt own6 w0 w6 bw B g ps:=(uH HL).more T06 (fun k hk=>(O6 k (Nat.lt_of_lt_of_le hk hs05)).trans (uH HO3 k hk)) R6.top
 have A6:TierAt own6 (2*ps.length+1) w6 bt 0 u:=(uH HA5).frame (fun k hk _=>⟨T6.block k hk id,O6 k hk⟩) R6.top
 have HLW:=hide (And.intro LW (And.intro A6 R6))
 have dn:w6.cell? ⟨bw,0,none⟩=some (.slice na ps.length nc):=by rw [← uH HNV];exact cOf LW.block 0
 have fn:w6.frozen? ⟨bw,0,none⟩=false:=fOf LW.block 0
 have hRow:=LW.prs.row
 rw [List.length_map,uH HNV] at hRow
 have HRow:=hide hRow
 have HOLD:Hid (∀ k,(Value.slice na ps.length nc).ownBlock=some k→own6 k=some (0,2)):=fun k hk=>LW.prs.mine k (by rw [uH HNV];exact hk)
 have HNO:Hid (¬ (Value.slice na ps.length nc).ownBlock=some bw):=fun e=>by
   have h1:=uH HOLD bw e
   rw [LW.blockO] at h1
   cases h1
 have hbw6:bw<w6.heap.size:=LW.lt
 generalize hls:(ps.map pairL).flatten=ls at *
 generalize hN:ps.length=N at *
 clear LW A6 R6 hRow T6 T06 hs05 O6 hR HA5 HT05 HO3 x0 x1 x2 x3 x4 HK5 HL
 go_wp2_with (at_builtin;refine wpList_append_lies _ (by rfl) _ _ _ (by rfl) 0 54 pi _ 2 16 Tryz.underlying26 phi pz0 pz1 pz2 rfl (by omega) (.slice na N nc) N ls ?c1 ?c2 ⟨w6.heap.size,0,none⟩ 1 1 [.pointer (some ⟨bt,0,none⟩),.pointer (some ⟨br,0,none⟩)] ?c3 ?c4 ?c5 ?c6 ?c7 ?c8 ?c9 ?c10 (w6.heap.size+1) ?c11 ?_)
 case c1=>rfl
 case c2=>exact (uH HRow).alloc _
 case c3=>rfl
 case c4=>rfl
 case c5=>exact World.news_of_block (cs:=#[.pointer (some ⟨bt,0,none⟩),.pointer (some ⟨br,0,none⟩)]) (t:=54) (fr:=(0,0)) (new1_0 w6 _)
 case c6=>simp [Value.oneCell']
 case c7=>omega
 case c8=>have:=uH HPL;unfold maxLen;omega
 case c9=>have:=uH HPL;omega
 case c10=>exact Nat.zero_le _
 case c11=>simp
 intro gb cap8 w8 hown hgrow hat hlt
 have hno:some bw≠(Value.slice na N nc).ownBlock:=fun e=>uH HNO e.symm
 have q1:w8.cell? ⟨bw,0,none⟩=some (.slice na N nc):=(hgrow.cell_far ⟨bw,0,none⟩ (by simp;omega) hno).trans ((Turn.alloc nO w6 _).cell dn id)
 have q2:w8.frozen? ⟨bw,0,none⟩=false:=(hgrow.frozen_far ⟨bw,0,none⟩ (by simp;omega) hno).trans ((Turn.alloc nO w6 _).froz dn id fn)
 have HG:=hide (And.intro hown (And.intro hgrow (And.intro hat hlt)))
 clear hown hgrow hat hlt dn fn
 go_wp2
 go_ret
 refine ⟨rfl,?_⟩
 obtain ⟨hown,hgrow,hat,hlt⟩:=uH HG
 obtain ⟨LW,A6,R6⟩:=uH HLW
 have TA:Turn nO w6 (w6.alloc (.cells #[.pointer (some ⟨bt,0,none⟩),.pointer (some ⟨br,0,none⟩)] 54 (0,0))):=Turn.alloc _ _ _
 have L7:=LW.turn TA
 obtain ⟨G1,hne,hbk,hgb⟩:=L7.appended (x:=2) (old:= .slice na N nc) (n:=N+1) (cap:=cap8) (uH HOLD) (by decide) hgrow (hat.imp id (fun e=>by rw [e];simp)) hlt 0 (.slice (some ⟨gb,0,none⟩) (N+1) cap8)
 refine ⟨_,_,⟨bt,br,u⟩,L7.pushPair (v:= .slice (some ⟨gb,0,none⟩) (N+1) cap8) (p:=⟨bt,br,u⟩) (by rw [uH HNV];exact G1) ?_ ?_ ?_ ?_⟩
 ·rw [hbk];rfl
 ·rw [hN,hls]
  exact owns_one hown hgb
 ·rw [hN];exact A6.turn TA
 ·rw [hN];exact ⟨rg,R6.turn TA⟩
def inI64 (c:Int):Prop:=-9223372036854775808≤c∧c≤9223372036854775807
def pickL (c n:Int):Int:=(if c<0 then -(c+1) else c) % n
theorem pickL_ok (c:Int) {n:Int} (hn:0<n):0≤pickL c n∧pickL c n<n:=⟨Int.emod_nonneg _ (by omega),Int.emod_lt_of_pos _ hn⟩
theorem pickL_any (c n:Int) (w:World) (hc:-9223372036854775808≤c∧c≤9223372036854775807) (hn:0<n∧n≤9223372036854775807) :
    Calls Tryz.prog 16 #[.int .i64 c,.int .i64 n] w fun e w'=>e= .returned (.int .i64 (pickL c n))∧w'=w:=by
 by_cases h:c<0
 ·have hz:(n == 0)=false:=by simp;omega
  go_enter Tryz.func16,Tryz.ntmps16
  go_wp2
  go_ret
  exact ⟨ret_int (by rw [pickL,if_pos h,← Int.neg_tmod,Int.tmod_eq_emod_of_nonneg (by omega)]),rfl⟩
 ·have hz:(n == 0)=false:=by simp;omega
  go_enter Tryz.func16,Tryz.ntmps16
  go_wp2
  go_ret
  exact ⟨ret_int (by rw [pickL,if_neg (by omega)]),rfl⟩
structure OpOK (w0:World) (o:OpD):Prop where
  on:inI64 o.on
  s:o.s.size≤maxLen
  t:o.t.size≤maxLen
  key:o.m.key.size≤maxLen
  zs:o.zs.length≤17592186044416
  sl:SliceAt w0 o.pa o.zs
theorem step_new (L:LawAt own w0 w bw B g ps) (hB:B≤800000) (o:OpD) (ok:OpOK w0 o) (hk:o.kind=1) :
    Calls Tryz.prog 7 #[.pointer (some ⟨bw,0,none⟩),o.val] w fun r w'=>r= .returned (.bool true)∧LawOn w0 bw (B+5) w':=by
 have KM:Hid (∀ w',Turn nO w w'→Calls Tryz.prog 6 #[.pointer (some ⟨bw,0,none⟩),cfgV o.pa o.zs.length o.pc o.dr o.bu o.en o.wa] w' fun r w'=>r= .returned (.bool true)∧LawOn w0 bw (B+5) w'):=fun w' T=>by
   have L':=L.turn T
   have hs:SliceAt w' o.pa o.zs:=ok.sl.below (below_turn L'.out)
   cases hc:confB o.zs o.dr o.bu o.en o.wa with
   | true =>
     refine (made_right L' hB o.pa o.pc o.zs o.dr o.bu o.en o.wa hs hc).mono ?_
     rintro r w2 ⟨rfl,own',g',p,h⟩
     exact ⟨rfl,⟨own',g',_,h⟩⟩
   | false=>exact made_wrong L' o.pa o.pc o.zs o.dr o.bu o.en o.wa ok.zs hs hc
 obtain ⟨kind,on,a_,b_,s_,t_,pa,pc,zs,dr,bu,en,wa,m⟩:=o
 dsimp only at hk KM
 subst hk
 unfold cfgV at KM
 clear L ok hB
 unfold OpD.val OpD.cells opC
 dsimp only
 go_enter Tryz.func7,Tryz.ntmps7
 go_wp2_with fail
 refine (uH KM _ (Turn.alloc _ _ _)).mono ?_
 rintro e w1 ⟨rfl,h1⟩
 have H1:=hide h1
 clear h1 KM
 go_wp2
 go_ret
 exact ⟨rfl,uH H1⟩
theorem step_empty (L:LawAt own w0 w bw B g ps) (hn:ps.length=0) (o:OpD) (k1:¬ o.kind=1) (k2:¬ o.kind=2) (k3:¬ o.kind=3) (k4:¬ o.kind=4) :
    Calls Tryz.prog 7 #[.pointer (some ⟨bw,0,none⟩),o.val] w fun r w'=>r= .returned (.bool true)∧LawOn w0 bw (B+5) w':=by
 have HL:Hid (∀ w',Turn nO w w'→LawOn w0 bw (B+5) w'):=fun w' T=>⟨own,g,ps,(L.turn T).mono (by omega)⟩
 obtain ⟨na,nc,hnv⟩:=rowForm L.prs
 have d0:∀ w',Turn nO w w'→w'.cell? ⟨bw,0,none⟩=some (.slice na 0 nc):=fun w' T=>by have h1:=cOf (L.turn T).block 0;rw [hn] at hnv;exact h1.trans (by show some g.lv=_;rw [hnv])
 have hbw:=L.lt
 obtain ⟨kind,on,a_,b_,s_,t_,pa,pc,zs,dr,bu,en,wa,m⟩:=o
 dsimp only at k1 k2 k3 k4
 have D0:=hide d0
 clear L hnv hn d0
 unfold OpD.val OpD.cells opC
 dsimp only
 have e0:=uH D0 _ (Turn.alloc nO w (.cells (opC kind on a_ b_ s_ t_ pa zs.length pc dr bu en wa m) 39 (0,0)))
 unfold opC at e0
 go_enter Tryz.func7,Tryz.ntmps7
 go_wp2
 go_ret
 exact ⟨rfl,uH HL _ (Turn.alloc _ _ _)⟩
theorem infoLM:(Tryz.prog.info? 59).map (fun i=>(i.zero,i.size,i.bytes))=some (some (.slice none 0 0),1,24):=by kernel_rfl
theorem net1_any (L:LawAt own w0 w bw B g ps) {i:Nat} {p:PairD} (hp:ps[i]?=some p) (hB:B≤800000) :
    Calls Tryz.prog 17 #[.pointer (some ⟨bw,0,none⟩),prV p.bt p.br] w fun r w'=>r= .returned (.bool true)∧LawOn w0 bw (B+5) w':=by
 obtain ⟨mi,mhi,mz0,mz1,mz2⟩:=info_parts infoMes
 obtain ⟨si,shi,sz0,sz1,sz2⟩:=info_parts infoLM
 have hT:=L.tier i p hp
 obtain ⟨rg,hR⟩:=L.refs i p hp
 obtain ⟨bt,br,t⟩:=p
 dsimp only at hT hR ⊢
 have hnl:=hT.netLen.1
 have KN:=hide (fun w' (T:Turn nO w w')=>(hT.turn T).net (by omega))
 obtain ⟨ma,mc,hmv⟩:=rowForm hR.net
 have hd7:w.cell? ⟨br,7,none⟩=some (.slice ma t.net.length mc):=by rw [← hmv];exact cOf hR.block 7
 have HD7:=hide hd7
 have hbr:=hR.lt
 have HE0:Hid (∀ (wx:World) (v:Value),Turn nO w wx→wx.ownsRow 0 37 9 v t.net.length (t.net.map mesL).flatten→∀ r,r<t.net.length→∃ x,∃ (lb mb:Nat) (lc:Nat),v= .slice (some ⟨lb,0,none⟩) t.net.length lc∧ma=some ⟨mb,0,none⟩∧(∀ i,i<9→wx.cell? ⟨lb,r*9+i,none⟩=(mesL x)[i]?)∧∀ i,i<9→wx.cell? ⟨mb,r*9+i,none⟩=(mesL x)[i]?):=fun wx v T hv r hr=>by
   obtain ⟨x,hx⟩:∃ x,t.net[r]?=some x:=⟨_,List.getElem?_eq_getElem hr⟩
   obtain ⟨lb,lc,h1,_,_,h2⟩:=looseAt (own:=fun _=>none) (f:=mesL) ⟨by rw [List.length_map];exact hv,fun _ _=>rfl⟩ (fun _=>rfl) hx
   obtain ⟨mb,mc',h3,_,_,h4,_⟩:=rowAt (hR.turn T).net (fun _=>rfl) hx
   rw [hmv] at h3
   cases h3
   exact ⟨x,lb,mb,lc,h1,rfl,h2,h4⟩
 have HL0:=hide (And.intro L (And.intro hT hR))
 obtain ⟨na,nc,hnv⟩:=rowForm L.net.row
 have HNV:=hide hnv
 have HHP:=hide hp
 have HBB:=hide hB
 clear L hT hR hmv hp hB hd7 hnv
 unfold prV
 go_enter Tryz.func17,Tryz.ntmps17
 go_wp2_with fail
 generalize hW:World.alloc _ _=W0
 have T0:Turn nO w W0:=by rw [← hW];exact Turn.alloc _ _ _
 have b0:W0.heap[w.heap.size]?=some (.cells #[.pointer (some ⟨bt,0,none⟩),.pointer (some ⟨br,0,none⟩)] 54 (0,0)):=by rw [← hW];exact new1_0 _ _
 clear hW
 refine (uH KN W0 T0).mono ?_
 rintro e V ⟨v,rfl,T1,R1⟩
 have TV:=T0.sT T1 (fun _ _ h=>h)
 have x1:V.cell? ⟨w.heap.size,1,none⟩=some (.pointer (some ⟨br,0,none⟩)):=T1.cell (cOf b0 1) id
 have d7:=TV.cell (uH HD7) id
 obtain ⟨la,lc,hv⟩:=row_form R1
 subst hv
 have HEL:Hid (∀ r,r<t.net.length→∃ kind frm to_ key serial ver age pres val,∃ lb mb:Nat,la=some ⟨lb,0,none⟩∧ma=some ⟨mb,0,none⟩∧(∀ i,i<9→V.cell? ⟨lb,r*9+i,none⟩=([.int .i64 kind,.int .i64 frm,.int .i64 to_,.string key,.int .i64 serial,.int .i64 ver,.int .i64 age,.int .i64 pres,.string val]:List Value)[i]?)∧∀ i,i<9→V.cell? ⟨mb,r*9+i,none⟩=([.int .i64 kind,.int .i64 frm,.int .i64 to_,.string key,.int .i64 serial,.int .i64 ver,.int .i64 age,.int .i64 pres,.string val]:List Value)[i]?):=fun r hr=>by
   obtain ⟨x,lb,mb,lc',h1,h2,h3,h4⟩:=uH HE0 V _ TV (owns_base' R1 (Nat.zero_le _)) r hr
   cases h1
   exact ⟨_,_,_,_,_,_,_,_,_,lb,mb,rfl,h2,h3,h4⟩
 have HF:Hid (∀ k,(Value.slice la t.net.length lc).ownBlock=some k→own k=none):=fun k hk=>(uH HL0).1.top k (Nat.le_trans T0.size (R1.lt k hk).1)
 have HLAW:Hid (∀ wx,Turn (fun k=>(Value.slice la t.net.length lc).ownBlock=some k) V wx→LawAt own w0 wx bw B g (ps.set i ⟨bt,br,t⟩)):=fun wx T=>by
   obtain ⟨L,hT,hR⟩:=uH HL0
   refine L.loosed (p:=⟨bt,br,t⟩) (uH HHP) (v:= .slice la t.net.length lc) (w1:=V) ⟨⟨own,V,Step.of_turn TV,Step.refl _ _ _⟩,hT.turn TV,⟨rg,hR.turn TV⟩⟩ (fun k hk=>⟨uH HF k hk,fun h=>?_⟩) T
   have:=(R1.lt k hk).1
   have:=T0.size
   omega
 have HTOP:Hid (∀ k,V.heap.size≤k→own k=none):=fun k hk=>(uH HL0).1.top k (Nat.le_trans TV.size hk)
 have HO:=hide (owns_base' R1 (Nat.zero_le W0.heap.size))
 obtain ⟨own1,hown1⟩:∃ o,o=own:=⟨_,rfl⟩
 rw [← hown1] at HF HLAW HTOP
 have HOLD:Hid (∀ k,(Value.slice na g.ln.length nc).ownBlock=some k→own1 k=some (0,3)):=fun k hk=>(uH HLAW V (Turn.refl _ _)).net.row.mine k (by rw [uH HNV];exact hk)
 have HNO:Hid (¬ (Value.slice na g.ln.length nc).ownBlock=some bw):=fun e=>by
   have h1:=uH HOLD bw e
   rw [(uH HLAW V (Turn.refl _ _)).blockO] at h1
   cases h1
 have HDN:Hid (∀ wx,Turn (fun k=>(Value.slice la t.net.length lc).ownBlock=some k) V wx→wx.cell? ⟨bw,1,none⟩=some (.slice na g.ln.length nc)∧wx.frozen? ⟨bw,1,none⟩=false):=fun wx T=>⟨by rw [← uH HNV];exact cOf (uH HLAW wx T).block 1,fOf (uH HLAW wx T).block 1⟩
 have HNR:Hid (∀ wx,Turn (fun k=>(Value.slice la t.net.length lc).ownBlock=some k) V wx→wx.ownsRow 0 59 1 (.slice na g.ln.length nc) g.ln.length g.ln):=fun wx T=>by
   have:=(uH HLAW wx T).net.row.row
   rw [List.length_map,uH HNV,flat_ones] at this
   exact this
 have KM:=hide (mark_any g.ln.length (by have:=(uH HL0).1.few;have:=uH HBB;omega))
 have HNB:Hid (g.ln.length≤900000):=by have:=(uH HL0).1.few;have:=uH HBB;show _≤_;omega
 have HNL:Hid (t.net.length≤900000):=by have:=uH HBB;show _≤_;omega
 have HW:Hid (∀ r,r<t.net.length→IntKind.i64.wrap ((r:Int)+1)=(r:Int)+1):=fun r hr=>by have:=uH HNL;rw [IntKind.wrap_i64];omega
 have HXX:Hid (xM g.ln.length=[.int .i64 (mkI g.ln.length),.int .i64 0,.int .i64 0,.string ⟨#[]⟩,.int .i64 0,.int .i64 0,.int .i64 0,.int .i64 0,.string ⟨#[]⟩]):=rfl
 have HLS:Hid (g.ln.length=g.ln.length):=rfl
 generalize hN:g.ln.length=N at *
 generalize hls:g.ln=ls at *
 generalize mkI N=mk at *
 generalize hn:t.net.length=n at *
 clear R1 T1 T0 TV HE0 KN b0 HD7 hbr hnl HHP HL0 HLS HBB
 go_wp2
 go_loopw [7,8] (fun s i wr=>∃ r:Nat,r≤n∧s= .bool true∧i= .int .i64 (r:Int)∧Hid (Turn nO V wr)) (fun _ i _=>n - (intOf i).toNat)
 case atStart=>exact ⟨0,Nat.zero_le _,rfl,rfl,Turn.refl _ _⟩
 case round =>
   obtain ⟨r,rn,rfl,rfl,HTr⟩:=hrel
   have r0:(0:Int)≤(r:Int):=by omega
   by_cases hr:r<n
   ·obtain ⟨kind,frm,to_,key,serial,ver,age,pres,val,lb,mb,rfl,rfl,CE,DE⟩:=uH HEL r hr
    have rlt:(r:Int)<(n:Int):=by omega
    have hrw:IntKind.i64.wrap ((r:Int)+1)=(r:Int)+1:=uH HW r hr
    have c0:wr.cell? ⟨lb,r*9,none⟩=some (.int .i64 kind):=(uH HTr).cell (CE 0 (by omega)) id
    have c1:wr.cell? ⟨lb,r*9+1,none⟩=some (.int .i64 frm):=(uH HTr).cell (CE 1 (by omega)) id
    have c2:wr.cell? ⟨lb,r*9+2,none⟩=some (.int .i64 to_):=(uH HTr).cell (CE 2 (by omega)) id
    have c3:wr.cell? ⟨lb,r*9+3,none⟩=some (.string key):=(uH HTr).cell (CE 3 (by omega)) id
    have c4:wr.cell? ⟨lb,r*9+4,none⟩=some (.int .i64 serial):=(uH HTr).cell (CE 4 (by omega)) id
    have c5:wr.cell? ⟨lb,r*9+5,none⟩=some (.int .i64 ver):=(uH HTr).cell (CE 5 (by omega)) id
    have c6:wr.cell? ⟨lb,r*9+6,none⟩=some (.int .i64 age):=(uH HTr).cell (CE 6 (by omega)) id
    have c7:wr.cell? ⟨lb,r*9+7,none⟩=some (.int .i64 pres):=(uH HTr).cell (CE 7 (by omega)) id
    have c8:wr.cell? ⟨lb,r*9+8,none⟩=some (.string val):=(uH HTr).cell (CE 8 (by omega)) id
    have d0:wr.cell? ⟨mb,r*9,none⟩=some (.int .i64 kind):=(uH HTr).cell (DE 0 (by omega)) id
    have d1:wr.cell? ⟨mb,r*9+1,none⟩=some (.int .i64 frm):=(uH HTr).cell (DE 1 (by omega)) id
    have d2:wr.cell? ⟨mb,r*9+2,none⟩=some (.int .i64 to_):=(uH HTr).cell (DE 2 (by omega)) id
    have d3:wr.cell? ⟨mb,r*9+3,none⟩=some (.string key):=(uH HTr).cell (DE 3 (by omega)) id
    have d4:wr.cell? ⟨mb,r*9+4,none⟩=some (.int .i64 serial):=(uH HTr).cell (DE 4 (by omega)) id
    have d5:wr.cell? ⟨mb,r*9+5,none⟩=some (.int .i64 ver):=(uH HTr).cell (DE 5 (by omega)) id
    have d6:wr.cell? ⟨mb,r*9+6,none⟩=some (.int .i64 age):=(uH HTr).cell (DE 6 (by omega)) id
    have d7:wr.cell? ⟨mb,r*9+7,none⟩=some (.int .i64 pres):=(uH HTr).cell (DE 7 (by omega)) id
    have d8:wr.cell? ⟨mb,r*9+8,none⟩=some (.string val):=(uH HTr).cell (DE 8 (by omega)) id
    clear CE DE
    go_wp2
    go_quiet (fail)
    go_wp2
    exact ⟨⟨r+1,by omega,rfl,by go_num,(uH HTr).sT (turn_drewN _ _ _) (fun _ _ h=>h)⟩,by simp [intOf];omega⟩
   ·have rge:¬ (r:Int)<(n:Int):=by omega
    have dn:wr.cell? ⟨bw,1,none⟩=some (.slice na N nc):=(uH HDN wr ((uH HTr).mono (fun _ _ h=>h.elim))).1
    clear HEL
    go_wp2_with fail
    refine (uH KM wr).mono ?_
    rintro e wm ⟨rfl,hwm⟩
    subst hwm
    obtain ⟨bx,hbx⟩:∃ bx,bx=wm.heap.size:=⟨_,rfl⟩
    go_wp2
    generalize hX0:World.alloc _ _=X0
    have hxb:X0.heap[bx]?=some (.cells #[.int .i64 mk,.int .i64 0,.int .i64 0,.string ⟨#[]⟩,.int .i64 0,.int .i64 0,.int .i64 0,.int .i64 0,.string ⟨#[]⟩] 37 (0,0)):=by rw [← hX0,hbx];exact new1_0 _ _
    have hbV:V.heap.size≤bx:=by rw [hbx];exact (uH HTr).size
    have TX:Turn nO V X0:=by rw [← hX0];exact (uH HTr).sA
    rw [← hbx]
    have HM0:Hid (Turn (fun k=>(Value.slice la n lc).ownBlock=some k) V X0∧X0.heap[bx]?=some (.cells #[.int .i64 mk,.int .i64 0,.int .i64 0,.string ⟨#[]⟩,.int .i64 0,.int .i64 0,.int .i64 0,.int .i64 0,.string ⟨#[]⟩] 37 (0,0))∧Marked X0 37 9 (.slice la n lc) n 0 [.int .i64 mk,.int .i64 0,.int .i64 0,.string ⟨#[]⟩,.int .i64 0,.int .i64 0,.int .i64 0,.int .i64 0,.string ⟨#[]⟩]):=⟨TX.mono (fun _ _ h=>h.elim),hxb,(Marked.start (uH HO) _).turn TX (fun _ _ h=>h)⟩
    have HVL:Hid (∀ k,(Value.slice la n lc).ownBlock=some k→k<bx):=fun k hk=>Nat.lt_of_lt_of_le ((uH HO).lt k hk).2 hbV
    clear hX0 hxb TX hbx hbV dn HO KM HTr
    go_loopw [10] (fun i wy=>∃ r:Nat,r≤n∧i= .int .i64 (r:Int)∧Hid (Turn (fun k=>(Value.slice la n lc).ownBlock=some k) V wy∧wy.heap[bx]?=some (.cells #[.int .i64 mk,.int .i64 0,.int .i64 0,.string ⟨#[]⟩,.int .i64 0,.int .i64 0,.int .i64 0,.int .i64 0,.string ⟨#[]⟩] 37 (0,0))∧Marked wy 37 9 (.slice la n lc) n r [.int .i64 mk,.int .i64 0,.int .i64 0,.string ⟨#[]⟩,.int .i64 0,.int .i64 0,.int .i64 0,.int .i64 0,.string ⟨#[]⟩])) (fun i _=>n - (intOf i).toNat)
    case atStart=>exact ⟨0,Nat.zero_le _,rfl,HM0⟩
    case round =>
      clear HM0
      obtain ⟨q,qn,rfl,HQ⟩:=hrel
      have q0:(0:Int)≤(q:Int):=by omega
      obtain ⟨y0,y1,y2,y3,y4,y5,y6,y7,y8⟩:=cC9 (uH HQ).2.1
      by_cases hq:q<n
      ·obtain ⟨g0,c0,e0,hg0,hcs,hfz⟩:=(uH HQ).2.2.at_ hq
       injection e0 with e1 e2 e3
       subst e1
       subst e3
       have qlt:(q:Int)<(n:Int):=by omega
       have hqw:IntKind.i64.wrap ((q:Int)+1)=(q:Int)+1:=uH HW q hq
       have hgx:g0<bx:=uH HVL g0 rfl
       have hgne:g0≠bx:=by omega
       obtain ⟨u0,z0⟩:=hcs 0 (by omega)
       obtain ⟨u1,z1⟩:=hcs 1 (by omega)
       obtain ⟨u2,z2⟩:=hcs 2 (by omega)
       obtain ⟨u3,z3⟩:=hcs 3 (by omega)
       obtain ⟨u4,z4⟩:=hcs 4 (by omega)
       obtain ⟨u5,z5⟩:=hcs 5 (by omega)
       obtain ⟨u6,z6⟩:=hcs 6 (by omega)
       obtain ⟨u7,z7⟩:=hcs 7 (by omega)
       obtain ⟨u8,z8⟩:=hcs 8 (by omega)
       rw [Nat.add_zero] at z0
       have f0:=hfz (q*9)
       have f1:=hfz (q*9+1)
       have f2:=hfz (q*9+2)
       have f3:=hfz (q*9+3)
       have f4:=hfz (q*9+4)
       have f5:=hfz (q*9+5)
       have f6:=hfz (q*9+6)
       have f7:=hfz (q*9+7)
       have f8:=hfz (q*9+8)
       clear hcs hfz
       go_wp2
       refine ⟨⟨q+1,by omega,by go_num,?_⟩,by simp [intOf];omega⟩
       obtain ⟨T1,hx1,M1⟩:=uH HQ
       exact Marked.all9 T1 rfl (fun e=>hgne e.symm) hx1 M1 hq
      ·have qge:¬ (q:Int)<(n:Int):=by omega
       have hqn:n=q:=by omega
       obtain ⟨TQ,hxq,MQ⟩:=uH HQ
       rename World=>wq
       rw [← hqn] at MQ
       have RQ:=hide (MQ.done rfl (by decide))
       have HTQ:=hide TQ
       have HXQ:=hide hxq
       have hbq:bx<wq.heap.size:=heap_lt hxq
       have hbn:Hid (¬ (Value.slice la n lc).ownBlock=some bx):=fun e=>by have:=uH HVL bx e;omega
       clear TQ hxq MQ HQ hqn
       go_wp2_with (at_builtin;refine wpList_append_marks _ (by rfl) _ _ _ (by rfl) 0 37 mi _ 9 88 Tryz.underlying59 mhi mz0 mz1 mz2 rfl (by omega) (.slice la n lc) n [.int .i64 mk,.int .i64 0,.int .i64 0,.string ⟨#[]⟩,.int .i64 0,.int .i64 0,.int .i64 0,.int .i64 0,.string ⟨#[]⟩] rfl ?c1x1 ?c1x2 ?c1x3 ⟨wq.heap.size,0,none⟩ 1 1 ?c1x4 (news_rep #[.int .i64 mk,.int .i64 0,.int .i64 0,.string ⟨#[]⟩,.int .i64 0,.int .i64 0,.int .i64 0,.int .i64 0,.string ⟨#[]⟩] rfl (new1_0 wq _)) ?c1x6 ?c1x7 ?c1x8 ?c1x9 ?_)
       try (case c1x1=>simp [Value.oneCell'])
       try (case c1x2=>rfl)
       try (case c1x3=>exact (uH RQ).alloc _)
       try (case c1x4=>rfl)
       try (case c1x6=>omega)
       try (case c1x7=>have:=uH HNL;unfold maxLen;omega)
       try (case c1x8=>have:=uH HNL;omega)
       try (case c1x9=>exact Nat.zero_le _)
       intro g1 cap1 w5 R1 T1 D1 A1 K1
       have HT1:=hide ((uH HTQ).sA.sT T1 (fun _ _ e=>e.symm))
       have hxk:w5.heap[bx]?=some (.cells #[.int .i64 mk,.int .i64 0,.int .i64 0,.string ⟨#[]⟩,.int .i64 0,.int .i64 0,.int .i64 0,.int .i64 0,.string ⟨#[]⟩] 37 (0,0)):=(T1.block bx (by simp;omega) (fun e=>uH hbn e.symm)).trans (((Turn.alloc nO wq _).block bx hbq id).trans (uH HXQ))
       have HR1:=hide R1
       have HA1:Hid ((Value.slice la n lc).ownBlock=some g1∨V.heap.size≤g1):=A1.imp id (fun e=>by rw [e];have:=(uH HTQ).size;simp;omega)
       have HSZ1:wq.heap.size+1≤w5.heap.size:=by have:=T1.size;simpa using this
       have HD1_1:=hide D1
       have HXQ1:=hide hxk
       have hbq:bx<w5.heap.size:=heap_lt hxk
       obtain ⟨y0,y1,y2,y3,y4,y5,y6,y7,y8⟩:=cC9 hxk
       clear R1 T1 D1 A1 K1 hxk RQ HTQ
       go_wp2_with (at_builtin;refine wpList_append_marks _ (by rfl) _ _ _ (by rfl) 0 37 mi _ 9 88 Tryz.underlying59 mhi mz0 mz1 mz2 rfl (by omega) (.slice la n lc) n [.int .i64 mk,.int .i64 0,.int .i64 0,.string ⟨#[]⟩,.int .i64 0,.int .i64 0,.int .i64 0,.int .i64 0,.string ⟨#[]⟩] rfl ?c2x1 ?c2x2 ?c2x3 ⟨w5.heap.size,0,none⟩ 2 2 ?c2x4 (news_rep #[.int .i64 mk,.int .i64 0,.int .i64 0,.string ⟨#[]⟩,.int .i64 0,.int .i64 0,.int .i64 0,.int .i64 0,.string ⟨#[]⟩,.int .i64 mk,.int .i64 0,.int .i64 0,.string ⟨#[]⟩,.int .i64 0,.int .i64 0,.int .i64 0,.int .i64 0,.string ⟨#[]⟩] rfl (new1_0 w5 _)) ?c2x6 ?c2x7 ?c2x8 ?c2x9 ?_)
       try (case c2x1=>simp [Value.oneCell'])
       try (case c2x2=>rfl)
       try (case c2x3=>exact (uH HR1).alloc _)
       try (case c2x4=>rfl)
       try (case c2x6=>omega)
       try (case c2x7=>have:=uH HNL;unfold maxLen;omega)
       try (case c2x8=>have:=uH HNL;omega)
       try (case c2x9=>exact Nat.zero_le _)
       intro g2 cap2 w6 R2 T2 D2 A2 K2
       have HT2:=hide ((uH HT1).sA.sT T2 (fun _ _ e=>e.symm))
       have hxk:w6.heap[bx]?=some (.cells #[.int .i64 mk,.int .i64 0,.int .i64 0,.string ⟨#[]⟩,.int .i64 0,.int .i64 0,.int .i64 0,.int .i64 0,.string ⟨#[]⟩] 37 (0,0)):=(T2.block bx (by simp;omega) (fun e=>uH hbn e.symm)).trans (((Turn.alloc nO w5 _).block bx hbq id).trans (uH HXQ1))
       have HR2:=hide R2
       have HA2:Hid ((Value.slice la n lc).ownBlock=some g2∨V.heap.size≤g2):=A2.imp id (fun e=>by rw [e];have:=(uH HT1).size;simp;omega)
       have HSZ2:w5.heap.size+1≤w6.heap.size:=by have:=T2.size;simpa using this
       have HD1_2:=hide (K2 g1 (n+1) (by omega) ((uH HD1_1).heap ((Turn.alloc nO w5 _).block _ (uH HD1_1).lt id) (by simp)))
       have HD2_2:=hide D2
       have HXQ2:=hide hxk
       have hbq:bx<w6.heap.size:=heap_lt hxk
       obtain ⟨y0,y1,y2,y3,y4,y5,y6,y7,y8⟩:=cC9 hxk
       clear R2 T2 D2 A2 K2 hxk HR1 HT1 HD1_1
       go_wp2_with (at_builtin;refine wpList_append_marks _ (by rfl) _ _ _ (by rfl) 0 37 mi _ 9 88 Tryz.underlying59 mhi mz0 mz1 mz2 rfl (by omega) (.slice la n lc) n [.int .i64 mk,.int .i64 0,.int .i64 0,.string ⟨#[]⟩,.int .i64 0,.int .i64 0,.int .i64 0,.int .i64 0,.string ⟨#[]⟩] rfl ?c3x1 ?c3x2 ?c3x3 ⟨w6.heap.size,0,none⟩ 3 3 ?c3x4 (news_rep #[.int .i64 mk,.int .i64 0,.int .i64 0,.string ⟨#[]⟩,.int .i64 0,.int .i64 0,.int .i64 0,.int .i64 0,.string ⟨#[]⟩,.int .i64 mk,.int .i64 0,.int .i64 0,.string ⟨#[]⟩,.int .i64 0,.int .i64 0,.int .i64 0,.int .i64 0,.string ⟨#[]⟩,.int .i64 mk,.int .i64 0,.int .i64 0,.string ⟨#[]⟩,.int .i64 0,.int .i64 0,.int .i64 0,.int .i64 0,.string ⟨#[]⟩] rfl (new1_0 w6 _)) ?c3x6 ?c3x7 ?c3x8 ?c3x9 ?_)
       try (case c3x1=>simp [Value.oneCell'])
       try (case c3x2=>rfl)
       try (case c3x3=>exact (uH HR2).alloc _)
       try (case c3x4=>rfl)
       try (case c3x6=>omega)
       try (case c3x7=>have:=uH HNL;unfold maxLen;omega)
       try (case c3x8=>have:=uH HNL;omega)
       try (case c3x9=>exact Nat.zero_le _)
       intro g3 cap3 w7 R3 T3 D3 A3 K3
       have HT3:=hide ((uH HT2).sA.sT T3 (fun _ _ e=>e.symm))
       have hxk:w7.heap[bx]?=some (.cells #[.int .i64 mk,.int .i64 0,.int .i64 0,.string ⟨#[]⟩,.int .i64 0,.int .i64 0,.int .i64 0,.int .i64 0,.string ⟨#[]⟩] 37 (0,0)):=(T3.block bx (by simp;omega) (fun e=>uH hbn e.symm)).trans (((Turn.alloc nO w6 _).block bx hbq id).trans (uH HXQ2))
       have HR3:=hide R3
       have HA3:Hid ((Value.slice la n lc).ownBlock=some g3∨V.heap.size≤g3):=A3.imp id (fun e=>by rw [e];have:=(uH HT2).size;simp;omega)
       have HSZ3:w6.heap.size+1≤w7.heap.size:=by have:=T3.size;simpa using this
       have HD1_3:=hide (K3 g1 (n+1) (by omega) ((uH HD1_2).heap ((Turn.alloc nO w6 _).block _ (uH HD1_2).lt id) (by simp)))
       have HD2_3:=hide (K3 g2 (n+2) (by omega) ((uH HD2_2).heap ((Turn.alloc nO w6 _).block _ (uH HD2_2).lt id) (by simp)))
       have HD3_3:=hide D3
       have HXQ3:=hide hxk
       have hbq:bx<w7.heap.size:=heap_lt hxk
       obtain ⟨y0,y1,y2,y3,y4,y5,y6,y7,y8⟩:=cC9 hxk
       clear R3 T3 D3 A3 K3 hxk HR2 HT2 HD1_2 HD2_2
       obtain ⟨dn,fn⟩:=uH HDN w7 (uH HT3)
       go_wp2_with (at_builtin;refine wpList_append_lies _ (by rfl) _ _ _ (by rfl) 0 59 si _ 1 24 Tryz.underlying27 shi sz0 sz1 sz2 rfl (by omega) (.slice na N nc) N ls ?e1 ?e2 ⟨w7.heap.size,0,none⟩ 4 4 [.slice la n lc,.slice (some ⟨g1,0,none⟩) (n+1) cap1,.slice (some ⟨g2,0,none⟩) (n+2) cap2,.slice (some ⟨g3,0,none⟩) (n+3) cap3] ?e3 ?e4 ?e5 ?e6 ?e7 ?e8 ?e9 ?e10 (w7.heap.size+1) ?e11 ?_)
       try (case e1=>rfl)
       try (case e2=>exact (uH HNR w7 (uH HT3)).alloc _)
       try (case e3=>rfl)
       try (case e4=>rfl)
       try (case e5=>exact World.news_of_block (cs:=#[.slice la n lc,.slice (some ⟨g1,0,none⟩) (n+1) cap1,.slice (some ⟨g2,0,none⟩) (n+2) cap2,.slice (some ⟨g3,0,none⟩) (n+3) cap3]) (t:=59) (fr:=(0,0)) (new1_0 w7 _))
       try (case e6=>simp [Value.oneCell'])
       try (case e7=>omega)
       try (case e8=>have:=uH HNB;unfold maxLen;omega)
       try (case e9=>have:=uH HNB;omega)
       try (case e10=>exact Nat.zero_le _)
       try (case e11=>simp)
       intro gb cap w8 hown hgrow hat hlt
       have hbw7:bw<w7.heap.size:=cell_lt dn
       have hno:some bw≠(Value.slice na N nc).ownBlock:=fun e=>uH HNO e.symm
       have q1:w8.cell? ⟨bw,1,none⟩=some (.slice na N nc):=(hgrow.cell_far ⟨bw,1,none⟩ (by simp;omega) hno).trans ((Turn.alloc nO w7 _).cell dn id)
       have q2:w8.frozen? ⟨bw,1,none⟩=false:=(hgrow.frozen_far ⟨bw,1,none⟩ (by simp;omega) hno).trans ((Turn.alloc nO w7 _).froz dn id fn)
       have HG:=hide (And.intro hown (And.intro hgrow (And.intro hat hlt)))
       clear hown hgrow hat hlt dn fn
       go_wp2
       go_ret
       refine ⟨rfl,?_⟩
       obtain ⟨hown,hgrow,hat,hlt⟩:=uH HG
       have L7:=(uH HLAW w7 (uH HT3)).turn (Turn.alloc nO w7 (.cells #[.slice la n lc,.slice (some ⟨g1,0,none⟩) (n+1) cap1,.slice (some ⟨g2,0,none⟩) (n+2) cap2,.slice (some ⟨g3,0,none⟩) (n+3) cap3] 59 (0,0)))
       have hfree:∀ k,(Value.slice la n lc).ownBlock=some k∨V.heap.size≤k→own1 k=none:=fun k hk=>hk.elim (uH HF k) (uH HTOP k)
       have A7:Turn nO w7 (w7.alloc (.cells #[.slice la n lc,.slice (some ⟨g1,0,none⟩) (n+1) cap1,.slice (some ⟨g2,0,none⟩) (n+2) cap2,.slice (some ⟨g3,0,none⟩) (n+3) cap3] 59 (0,0))):=Turn.alloc nO w7 _
       have hnl:=uH HNL
       obtain ⟨G1,hne,hbk,hgb⟩:=L7.appended (x:=3) (old:= .slice na N nc) (n:=N+4) (cap:=cap) (uH HOLD) (by decide) hgrow (hat.imp id (fun e=>by rw [e];simp)) hlt 1 (.slice (some ⟨gb,0,none⟩) (N+4) cap)
       refine ⟨_,_,_,L7.pushNet (v:= .slice (some ⟨gb,0,none⟩) (N+4) cap) (a:= .slice la n lc) (b:= .slice (some ⟨g1,0,none⟩) (n+1) cap1) (c:= .slice (some ⟨g2,0,none⟩) (n+2) cap2) (d:= .slice (some ⟨g3,0,none⟩) (n+3) cap3) (by rw [uH HNV];exact G1) ?_ ?_ ?_ ?_ ?_ ?_⟩
       ·rw [hbk];rfl
       ·rw [hls,hN]
        exact owns_one hown hgb
       ·rw [hls,hN,uH HXX]
        exact (mark_of (own:=own1) (uH HR3) rfl (by omega) (fun k hk=>hfree k (Or.inl hk))).frame A7.size (fun k hk ho=>⟨A7.block k hk id,ho⟩)
       ·rw [hls,hN,uH HXX]
        exact (mark_rd (own:=own1) (uH HD1_3) (by omega) (hfree g1 (uH HA1))).frame A7.size (fun k hk ho=>⟨A7.block k hk id,ho⟩)
       ·rw [hls,hN,uH HXX]
        exact (mark_rd (own:=own1) (uH HD2_3) (by omega) (hfree g2 (uH HA2))).frame A7.size (fun k hk ho=>⟨A7.block k hk id,ho⟩)
       ·rw [hls,hN,uH HXX]
        exact (mark_rd (own:=own1) (uH HD3_3) (by omega) (hfree g3 (uH HA3))).frame A7.size (fun k hk ho=>⟨A7.block k hk id,ho⟩)
theorem step_net (L:LawAt own w0 w bw B g ps) (hB:B≤800000) (hn:0<ps.length) (o:OpD) (ok:OpOK w0 o) (hk:o.kind=9) :
    Calls Tryz.prog 7 #[.pointer (some ⟨bw,0,none⟩),o.val] w fun r w'=>r= .returned (.bool true)∧LawOn w0 bw (B+5) w':=by
 have hpl:ps.length≤800000:=Nat.le_trans L.few.1 hB
 obtain ⟨j,hj⟩:∃ j:Nat,pickL o.on (ps.length:Int)=(j:Int):=⟨(pickL o.on (ps.length:Int)).toNat,by have:=pickL_ok o.on (n:=(ps.length:Int)) (by omega);omega⟩
 have hjl:j<ps.length:=by have:=pickL_ok o.on (n:=(ps.length:Int)) (by omega);omega
 obtain ⟨p,hp⟩:∃ p,ps[j]?=some p:=⟨_,List.getElem?_eq_getElem hjl⟩
 have KP:=hide (fun w'=>pickL_any o.on (ps.length:Int) w' ok.on (by omega))
 rw [hj] at KP
 obtain ⟨nb,nc,hnv,_,hnb,hcs,_⟩:=rowAt L.prs (fun _=>rfl) hp
 have d0:w.cell? ⟨bw,0,none⟩=some (.slice (some ⟨nb,0,none⟩) ps.length nc):=by rw [← hnv];exact cOf L.block 0
 obtain ⟨c0,c1⟩:=rC2 hcs
 have hbw:=L.lt
 have j0:(0:Int)≤(j:Int):=by omega
 have j1:(j:Int)<(ps.length:Int):=by omega
 have n0:¬ (ps.length:Int)=0:=by omega
 have KM:=hide (fun w' (T:Turn nO w w')=>net1_any (L.turn T) hp hB)
 obtain ⟨kind,on,a_,b_,s_,t_,pa,pc,zs,dr,bu,en,wa,m⟩:=o
 obtain ⟨bt,br,t⟩:=p
 dsimp only at *
 subst hk
 generalize ps.length=N at *
 clear L ok hB hnv hcs hp hpl hj
 unfold prV at KM
 unfold OpD.val OpD.cells opC at *
 dsimp only at *
 go_enter Tryz.func7,Tryz.ntmps7
 go_upto_region 1 with fail
 generalize hW:World.alloc _ _=W0
 have T0:Turn nO w W0:=by rw [← hW];exact Turn.alloc _ _ _
 have b0:W0.heap[w.heap.size]?=some (.cells (opC 9 on a_ b_ s_ t_ pa zs.length pc dr bu en wa m) 39 (0,0)):=by rw [← hW];exact new1_0 _ _
 unfold opC at b0
 clear hW
 have y0:W0.cell? ⟨w.heap.size,0,none⟩=some (.int .i64 9):=cOf b0 0
 have y1:W0.cell? ⟨w.heap.size,1,none⟩=some (.int .i64 on):=cOf b0 1
 have y2:W0.cell? ⟨w.heap.size,2,none⟩=some (.int .i64 a_):=cOf b0 2
 have e0:=T0.cell d0 id
 have e1:=T0.cell c0 id
 have e2:=T0.cell c1 id
 clear d0 c0 c1 b0
 go_wp2
 have HS:=fun w' (T:Turn nO W0 w')=>And.intro T (And.intro (T.cell e0 id) (And.intro (T.cell y1 id) (And.intro (T.cell e1 id) (T.cell e2 id))))
 go_region_held3 (fun w'=>Turn nO W0 w'∧w'.cell? ⟨bw,0,none⟩=some (.slice (some ⟨nb,0,none⟩) N nc)∧w'.cell? ⟨w.heap.size,1,none⟩=some (.int .i64 on)∧w'.cell? ⟨nb,j*2,none⟩=some (.pointer (some ⟨bt,0,none⟩))∧w'.cell? ⟨nb,j*2+1,none⟩=some (.pointer (some ⟨br,0,none⟩))) ((go_split_ands;apply HS;all_goals (repeat (first|(with_reducible first|assumption|exact Turn.refl _ _|apply Turn.sA|apply Turn.sD|refine tN ?_ (by assumption))|((with_reducible refine Turn.sS ?_ ?_);rotate_left;· first|exact Or.inr rfl|exact Or.inr (Or.inl rfl)|exact Or.inl (by simp <;> omega))|(with_reducible refine tG ?_ (by assumption))|(with_reducible first|apply There.drew|apply There.set|refine hNo ?_ (by assumption))|assumption)))) ((go_at_call 16;go_split_ands;refine (uH KP _).mono ?_;rintro e w' ⟨rfl,rfl⟩))
 all_goals (
   clear HS KP
   generalize hW5:World.drew _=W5
   have T5:Turn nO W0 W5:=by rw [← hW5];exact (Turn.alloc _ _ _).sD
   have bp:W5.heap[W0.heap.size]?=some (.cells #[.pointer (some ⟨bt,0,none⟩),.pointer (some ⟨br,0,none⟩)] 54 (0,0)):=by rw [← hW5];exact new1_0 _ _
   clear hW5
   obtain ⟨z0,z1⟩:=cC2 bp
   have v0:W5.cell? ⟨w.heap.size,0,none⟩=some (.int .i64 9):=T5.cell y0 id
   have v1:W5.cell? ⟨w.heap.size,1,none⟩=some (.int .i64 on):=T5.cell y1 id
   have v2:W5.cell? ⟨w.heap.size,2,none⟩=some (.int .i64 a_):=T5.cell y2 id
   have KM5:=hide (uH KM W5 (T0.sT T5 (fun _ _ h=>h)))
   clear T5 T0 bp KM
   go_wp2_with fail
   refine (uH KM5).mono ?_
   rintro e w9 ⟨rfl,h9⟩
   have H9:=hide h9
   clear h9 KM5
   go_wp2
   go_ret
   exact ⟨rfl,uH H9⟩)
end
end Go.Proofs.YtpdkojgepagbnaaGreatDoor
