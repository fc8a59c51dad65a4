/-
  The document's tier: a message comes, whatever Deliver is called with.
  The document's tier: a fetch comes to the origin.
  The document's tier is made.
  New of the document's package.
  The document's tier: the entries of a cache, as others see them.
-/
import Derived.Test.YtpdkojgepagbnaaGreatDoorJ34
import Derived.Test.YtpdkojgepagbnaaGreatDoorJ02
namespace Go.Proofs.YtpdkojgepagbnaaGreatDoor
set_option maxRecDepth 100000
set_option maxHeartbeats 8000000
section
open Go.RowKit
open Tier (Mes Ans Conf St Kept Wtr Ftc Cac)
attribute [local go_sem ↓] Go.wp_at_zero Go.wp_at_succ
variable {own own':Own} {τ:Nat} {w w1 w2 w':World} {br:Nat} {g g':RGh} {t t':St}
theorem ranswered_any (h:RLies own τ w br g t) {n:Nat} (m:Mes) (hto:m.to=(n:Int)) (hw:WFine t n) (hA:∀ f,t.fetch n m.key=some f→AFine t n m f) :
    Calls Tryz.prog 82 #[.pointer (some ⟨br,0,none⟩),mesV m] w fun r w'=>r= .returned (.tuple #[])∧RLeaves own τ w br (t.answered n m) w':=by
 cases hf:t.fetch n m.key with
 | none=>exact ranswered_none h hw m hto hf
 | some f =>
   by_cases hs:f.serial=m.serial
   ·exact ranswered_some h m hto (hA f hf) hf hs
   ·exact ranswered_other h hw m hto hf hs
structure DFine (u:St) (m:Mes):Prop where
  ans:m.kind≠1→∃ n:Nat,m.to=(n:Int)∧WFine u n∧∀ f,u.fetch n m.key=some f→AFine u n m f
  ask:m.kind=1→0<m.to→∃ n:Nat,m.to=(n:Int)∧WFine u n
  net:u.net.length<1000000000000
  items:u.items.length≤1000000
  kind:m.kind=1∨m.kind=2∨m.kind=3∨m.kind=4
def delS (t:St) (i:Int):St:=if placeB t i=true then (match t.net[i.toNat]? with|some m=>(t.taken i.toNat).comes m|none=>t) else t
theorem rDeliver_none (h:RLies own τ w br g t) (i:Int) (hp:placeB t i=false) :
    Calls Tryz.prog 46 #[.pointer (some ⟨br,0,none⟩),.int .i64 i] w fun e w'=>e= .returned (.int .i64 6)∧RLeaves own τ w br t w':=by
 have HH:=hide h.stays
 obtain ⟨na,nc,hnv⟩:=rowForm h.net
 have d7:w.cell? ⟨br,7,none⟩=some (.slice na t.net.length nc):=by rw [← hnv];exact cOf h.block 7
 by_cases h0:i<0
 ·clear h hnv hp
  go_enter Tryz.func46,Tryz.ntmps46
  go_wp2
  go_ret
  exact ⟨rfl,uH HH⟩
 ·have h1:¬ i<(t.net.length:Int):=fun h1=>by
    unfold placeB at hp
    rw [decide_eq_true (show 0≤i by omega),decide_eq_true h1] at hp
    cases hp
  generalize t.net.length=nl at *
  clear h hnv hp
  go_enter Tryz.func46,Tryz.ntmps46
  go_wp2
  go_ret
  exact ⟨rfl,uH HH⟩
theorem rDeliver_cache (h:RLies own τ w br g t) {j:Nat} {m:Mes} (hm:t.net[j]?=some m) (hl:t.net.length≤1000000000000) (hd:DFine (t.taken j) m) (hcc:m.kind≠1∨0<m.to) :
    Calls Tryz.prog 46 #[.pointer (some ⟨br,0,none⟩),.int .i64 (j:Int)] w fun e w'=>e= .returned (.int .i64 0)∧RLeaves own τ w br ((t.taken j).comes m) w':=by
 obtain ⟨na,nc,hnv⟩:=rowForm h.net
 have d7:w.cell? ⟨br,7,none⟩=some (.slice na t.net.length nc):=by rw [← hnv];exact cOf h.block 7
 have hj:j<t.net.length:=(List.getElem?_eq_some_iff.1 hm).1
 have h0:¬ (j:Int)<0:=by omega
 have h1:(j:Int)<(t.net.length:Int):=by omega
 have KT:=hide (rtaken_any h hm hl)
 have HD:=hide hd
 have HTOP:=hide h.top
 generalize t.taken j=u at *
 generalize t.net.length=nl at *
 have hbr:=h.lt
 clear h hm hnv hd hj hl
 by_cases hk:m.kind=1
 ·by_cases ht:0<m.to
  ·obtain ⟨n,hn,hwf⟩:=(uH HD).ask hk ht
   have e1:u.comes m=u.wants n m.key ⟨m.frm,0,m.serial,m.ver⟩:=by
     unfold Tier.St.comes
     rw [if_neg (fun c=>c hk),if_pos ht,hn,Int.toNat_natCast]
   rw [e1]
   have KW:=hide (fun (o:Own) (g1:RGh) (w':World) (R:RLies o τ w' br g1 u)=>rwants_any R hwf m.key ⟨m.frm,0,m.serial,m.ver⟩)
   obtain ⟨kind,frm,to_,key,serial,ver,age,pres,val⟩:=m
   unfold mesV mesL at KT
   unfold wtrV wtrL at KW
   dsimp only at *
   subst hk hn
   clear e1 hwf
   go_enter Tryz.func46,Tryz.ntmps46
   go_wp2_with fail
   refine (uH KT).mono ?_
   rintro e w1 ⟨rfl,R1⟩
   obtain ⟨o1,g1,R1,S1⟩:=R1.is
   have HR1:=hide (fun (w':World) (T:Turn nO w1 w')=>R1.turn T)
   have HS1:=hide S1
   clear R1 S1 KT d7
   go_wp2_with fail
   generalize hX:World.alloc _ _=X
   have TX:Turn nO w1 X:=by rw [← hX];exact Turn.alloc _ _ _
   have HTX:=hide TX
   clear hX
   refine (uH KW o1 g1 X (uH HR1 X TX)).mono ?_
   rintro e w2 ⟨rfl,R2⟩
   have HE:=hide (R2.trans ((uH HS1).trans (Step.of_turn (uH HTX))))
   clear R2 KW TX
   go_wp2
   go_ret
   exact ⟨rfl,uH HE⟩
  ·exact absurd hcc (fun c=>c.elim (fun c=>c hk) ht)
 ·obtain ⟨n,hn,hwf,hA⟩:=(uH HD).ans hk
  have e1:u.comes m=u.answered n m:=by
    unfold Tier.St.comes
    rw [if_pos hk,hn,Int.toNat_natCast]
  rw [e1]
  have KW:=hide (fun (o:Own) (g1:RGh) (w':World) (R:RLies o τ w' br g1 u)=>ranswered_any R m hn hwf hA)
  generalize u.answered n m=ua at *
  obtain ⟨kind,frm,to_,key,serial,ver,age,pres,val⟩:=m
  unfold mesV mesL at KT KW
  dsimp only at *
  have hk4:kind=2∨kind=3∨kind=4:=by have:=(uH HD).kind;dsimp only at this;omega
  subst hn
  clear e1 hwf hA HD hk
  rcases hk4 with hk|hk|hk <;> subst hk
  all_goals
    go_enter Tryz.func46,Tryz.ntmps46
    go_wp2_with fail
    refine (uH KT).mono ?_
    rintro e w1 ⟨rfl,R1⟩
    obtain ⟨o1,g1,R1,S1⟩:=R1.is
    have HR1:=hide (fun (w':World) (T:Turn nO w1 w')=>R1.turn T)
    have HS1:=hide S1
    clear R1 S1 KT d7
    go_wp2_with fail
    generalize hX:World.alloc _ _=X
    have TX:Turn nO w1 X:=by rw [← hX];exact Turn.alloc _ _ _
    have HTX:=hide TX
    clear hX
    refine (uH KW o1 g1 X (uH HR1 X TX)).mono ?_
    rintro e w2 ⟨rfl,R2⟩
    have HE:=hide (R2.trans ((uH HS1).trans (Step.of_turn (uH HTX))))
    clear R2 KW TX
    go_wp2
    go_ret
    exact ⟨rfl,uH HE⟩
theorem rDeliver_origin (h:RLies own τ w br g t) {j:Nat} {m:Mes} (hm:t.net[j]?=some m) (hl:t.net.length≤1000000000000) (hd:DFine (t.taken j) m) (hk:m.kind=1) (ht:¬ 0<m.to) :
    Calls Tryz.prog 46 #[.pointer (some ⟨br,0,none⟩),.int .i64 (j:Int)] w fun e w'=>e= .returned (.int .i64 0)∧RLeaves own τ w br ((t.taken j).comes m) w':=by
 obtain ⟨mi,mhi,mz0,mz1,mz2⟩:=info_parts infoMes
 obtain ⟨na,nc,hnv⟩:=rowForm h.net
 have d7:w.cell? ⟨br,7,none⟩=some (.slice na t.net.length nc):=by rw [← hnv];exact cOf h.block 7
 have hj:j<t.net.length:=(List.getElem?_eq_some_iff.1 hm).1
 have h0:¬ (j:Int)<0:=by omega
 have h1:(j:Int)<(t.net.length:Int):=by omega
 have KT:=hide (rtaken_any h hm hl)
 have HD:=hide hd
 have HTOP:=hide h.top
 generalize t.taken j=u at *
 generalize t.net.length=nl at *
 have hbr:=h.lt
 have e1:u.comes m=if (u.item m.key).ver=m.ver then { u with net:=u.net ++ [⟨3,0,m.frm,m.key,m.serial,(u.item m.key).ver,0,0,Tier.empty⟩] } else { u with net:=u.net ++ [⟨2,0,m.frm,m.key,m.serial,(u.item m.key).ver,0,(u.item m.key).pres,(u.item m.key).val⟩] }:=by
   unfold Tier.St.comes
   rw [if_neg (fun c=>c hk),if_neg ht]
   rfl
 have HE1:=hide e1
 have KI:=hide (fun (o:Own) (g1:RGh) (w':World) (R:RLies o τ w' br g1 u)=>ritem_any R (uH HD).items m.key)
 obtain ⟨kind,frm,to_,key,serial,ver,age,pres,val⟩:=m
 unfold mesV mesL at KT
 unfold itemV itemL at KI
 dsimp only at *
 subst hk
 generalize u.comes ⟨1,frm,to_,key,serial,ver,age,pres,val⟩=uc at *
 generalize u.item key=it at *
 obtain ⟨ik,iv,ip,ix⟩:=it
 dsimp only at *
 have hlen':(u.net.map mesL).length<1000000000000:=by rw [List.length_map];exact (uH HD).net
 clear h hm hnv hd hj hl e1 HD
 go_enter Tryz.func46,Tryz.ntmps46
 go_wp2_with fail
 refine (uH KT).mono ?_
 rintro e w1 ⟨rfl,R1⟩
 obtain ⟨o1,g1,R1,S1⟩:=R1.is
 have HR1:=hide (fun (w':World) (T:Turn nO w1 w')=>R1.turn T)
 have HS1:=hide S1
 have HT1:=hide R1.top
 have hb1:=R1.lt
 clear R1 S1 KT d7
 go_wp2_with fail
 generalize hX:World.alloc _ _=X
 have TX:Turn nO w1 X:=by rw [← hX];exact Turn.alloc _ _ _
 have y1:X.cell? ⟨w1.heap.size,1,none⟩=some (.int .i64 frm):=by rw [← hX];exact cOf (new1_0 w1 _) 1
 have y3:X.cell? ⟨w1.heap.size,3,none⟩=some (.string key):=by rw [← hX];exact cOf (new1_0 w1 _) 3
 have y4:X.cell? ⟨w1.heap.size,4,none⟩=some (.int .i64 serial):=by rw [← hX];exact cOf (new1_0 w1 _) 4
 have y5:X.cell? ⟨w1.heap.size,5,none⟩=some (.int .i64 ver):=by rw [← hX];exact cOf (new1_0 w1 _) 5
 have HTX:=hide TX
 clear hX
 refine (uH KI o1 g1 X (uH HR1 X TX)).mono ?_
 rintro e w2 ⟨rfl,T2⟩
 have y1:=T2.cell y1 id
 have y3:=T2.cell y3 id
 have y4:=T2.cell y4 id
 have y5:=T2.cell y5 id
 have HT2:Hid (Turn nO w1 w2):=(uH HTX).sT T2 (fun _ _ h=>h)
 have h12:w1.heap.size<w2.heap.size:=cell_lt y1
 clear T2 TX KI
 by_cases hv:iv=ver
 ·subst hv
  go_wp2
  generalize hW:World.alloc _ _=W0
  have T0:Turn nO w1 W0:=by rw [← hW];exact (uH HT2).sA.sA
  have x0_0:W0.cell? ⟨w2.heap.size+1,0,none⟩=some (.int .i64 3):=by rw [← hW];exact cOf (new2_1 w2 _ _) 0
  have x0_1:W0.cell? ⟨w2.heap.size+1,1,none⟩=some (.int .i64 0):=by rw [← hW];exact cOf (new2_1 w2 _ _) 1
  have x0_2:W0.cell? ⟨w2.heap.size+1,2,none⟩=some (.int .i64 frm):=by rw [← hW];exact cOf (new2_1 w2 _ _) 2
  have x0_3:W0.cell? ⟨w2.heap.size+1,3,none⟩=some (.string key):=by rw [← hW];exact cOf (new2_1 w2 _ _) 3
  have x0_4:W0.cell? ⟨w2.heap.size+1,4,none⟩=some (.int .i64 serial):=by rw [← hW];exact cOf (new2_1 w2 _ _) 4
  have x0_5:W0.cell? ⟨w2.heap.size+1,5,none⟩=some (.int .i64 iv):=by rw [← hW];exact cOf (new2_1 w2 _ _) 5
  have x0_6:W0.cell? ⟨w2.heap.size+1,6,none⟩=some (.int .i64 0):=by rw [← hW];exact cOf (new2_1 w2 _ _) 6
  have x0_7:W0.cell? ⟨w2.heap.size+1,7,none⟩=some (.int .i64 0):=by rw [← hW];exact cOf (new2_1 w2 _ _) 7
  have x0_8:W0.cell? ⟨w2.heap.size+1,8,none⟩=some (.string ⟨#[]⟩):=by rw [← hW];exact cOf (new2_1 w2 _ _) 8
  have hsz:W0.heap.size=w2.heap.size+1+1:=by rw [← hW];simp
  clear hW y1 y3 y4 y5
  have HL:=hide (uH HR1 W0 T0)
  have HST:Hid (Step τ own o1 w W0):=(uH HS1).trans (Step.of_turn T0)
  have c16:W0.cell? ⟨br,7,none⟩=some g1.nv:=cOf (uH HL).block 7
  have f16:W0.frozen? ⟨br,7,none⟩=false:=fOf (uH HL).block 7
  have hN:=hide (uH HL).net.row
  have xne:some br≠g1.nv.ownBlock:=fun e=>by have:=lab_ne (uH HL).blockO ((uH HL).net.mine _ e.symm);omega
  have o2w:o1 (w2.heap.size+1)=none:=uH HT1 _ (by omega)
  have nb0:¬ (w2.heap.size+1=br∨some (w2.heap.size+1)=g1.nv.ownBlock):=fun h=>h.elim (fun e=>by omega) (fun e=>by have:=(uH HL).net.mine _ e.symm;rw [o2w] at this;cases this)
  have c16a:∀ o,(W0.alloc o).cell? ⟨br,7,none⟩=some g1.nv:=fun o=>(Turn.alloc nO W0 o).cell c16 id
  have hbt:br<W0.heap.size:=(uH HL).lt
  have hne0:br≠W0.heap.size:=by omega
  generalize hxs:(u.net.map mesL).flatten=xs at *
  generalize hnn:(u.net.map mesL).length=mm at *
  have hm1:mm+1≤maxLen:=by unfold maxLen;omega
  have hm2:(mm+1)*88≤140737488355328:=by omega
  clear hsz
  skip
  have HS:=fun w' (T:Turn (fun q=>q=br∨some q=g1.nv.ownBlock) W0 w')=>And.intro T (And.intro (T.cell x0_0 (nb0)) (And.intro (T.cell x0_1 (nb0)) (And.intro (T.cell x0_2 (nb0)) (And.intro (T.cell x0_3 (nb0)) (And.intro (T.cell x0_4 (nb0)) (And.intro (T.cell x0_5 (nb0)) (And.intro (T.cell x0_6 (nb0)) (And.intro (T.cell x0_7 (nb0)) (T.cell x0_8 (nb0))))))))))
  refine wp_region_noPanic ?_
  refine wp_region_held_drew (S:=fun w'=>Turn (fun q=>q=br∨some q=g1.nv.ownBlock) W0 w'∧w'.cell? ⟨w2.heap.size+1,0,none⟩=some (.int .i64 3)∧w'.cell? ⟨w2.heap.size+1,1,none⟩=some (.int .i64 0)∧w'.cell? ⟨w2.heap.size+1,2,none⟩=some (.int .i64 frm)∧w'.cell? ⟨w2.heap.size+1,3,none⟩=some (.string key)∧w'.cell? ⟨w2.heap.size+1,4,none⟩=some (.int .i64 serial)∧w'.cell? ⟨w2.heap.size+1,5,none⟩=some (.int .i64 iv)∧w'.cell? ⟨w2.heap.size+1,6,none⟩=some (.int .i64 0)∧w'.cell? ⟨w2.heap.size+1,7,none⟩=some (.int .i64 0)∧w'.cell? ⟨w2.heap.size+1,8,none⟩=some (.string ⟨#[]⟩)) (by kernel_rfl) (HS _ ((Turn.refl _ _).sD)) (fun hHeld=>?_)
  refine tkE (i:=0) (v:=?_) rfl ?hy ?_
  case hy=>intro w hSw;(try dsimp only at hSw);go_simp;(try with_reducible rfl)
  (try go_frame)
  refine tkE (i:=1) (v:=?_) rfl ?hy ?_
  case hy=>intro w hSw;(try dsimp only at hSw);go_simp;(try with_reducible rfl)
  (try go_frame)
  refine tkE (i:=2) (v:=?_) rfl ?hy ?_
  case hy=>intro w hSw;(try dsimp only at hSw);go_simp;(try with_reducible rfl)
  (try go_frame)
  refine tkE (i:=3) (v:=?_) rfl ?hy ?_
  case hy=>intro w hSw;(try dsimp only at hSw);go_simp;(try with_reducible rfl)
  (try go_frame)
  refine tkE (i:=5) (v:=?_) rfl ?hy ?_
  case hy=>intro w hSw;(try dsimp only at hSw);go_simp;(try with_reducible rfl)
  (try go_frame)
  refine wpAnyH_ready (rs:=[4,6]) (by kernel_rfl) (by simp) ?_
  refine AllReadyH.cons rfl (fun K hK=>?_) (AllReadyH.cons rfl (fun K hK=>?_) AllReadyH.nil)
  ·go_simp
   refine hK.out _ _ (HS _ ((Turn.refl _ _).sD)) (fun hHeld=>?_)
   clear hK K
   refine wpAnyH_ready (rs:=[6]) (by kernel_rfl) (by simp) ?_
   refine AllReadyH.cons rfl (fun K hK=>?_) AllReadyH.nil
   go_simp
   refine hK.out _ _ (HS _ tAD) (fun hHeld=>?_)
   clear hK K
   refine wpAnyH_ready (rs:=[7]) (by kernel_rfl) (by simp) ?_
   refine AllReadyH.cons rfl (fun K hK=>?_) AllReadyH.nil
   refine step_append_lies _ (by rfl) _ _ _ (by rfl) 0 37 mi _ 9 88 Tryz.underlying59 mhi mz0 mz1 mz2 rfl (by omega) g1.nv mm xs (by rfl) ((uH hN).alloc _).drew ⟨W0.heap.size,0,none⟩ 1 1 [.int .i64 3,.int .i64 0,.int .i64 frm,.string key,.int .i64 serial,.int .i64 iv,.int .i64 0,.int .i64 0,.string ⟨#[]⟩] (by rfl) (by rfl) (World.news_of_block (cs:=#[.int .i64 3,.int .i64 0,.int .i64 frm,.string key,.int .i64 serial,.int .i64 iv,.int .i64 0,.int .i64 0,.string ⟨#[]⟩]) (t:=37) (fr:=(0,0)) (heap_alloc_new W0 _)) (by simp [Value.oneCell']) (by omega) hm1 hm2 (by simp) (W0.heap.size+1) (by simp) ?_;intro gb cap w5 hown1 hgrow hat hlt;have q16:=far_cell hgrow c16 xne;have q16f:=far_froz hgrow c16 f16 xne
   refine hK.out _ _ (HS _ (tADG hgrow)) (fun hHeld=>?_)
   clear hK K
   refine tkE (i:=8) (v:=?_) rfl ?hy ?_
   case hy=>intro w hSw;(try dsimp only at hSw);go_simp;(try with_reducible rfl)
   (try go_frame)
   refine tkE (i:=9) (v:=?_) rfl ?hy ?_
   case hy=>intro w hSw;(try dsimp only at hSw);go_simp;(try with_reducible rfl)
   (try go_frame)
   refine wpAnyH_ready (rs:=[10]) (by kernel_rfl) (by simp) ?_
   refine AllReadyH.cons rfl (fun K hK=>?_) AllReadyH.nil
   go_simp
   refine hK.out _ _ (HS _ (tADGS hgrow)) (fun hHeld=>?_)
   clear hK K
   refine wpAnyH_done (by kernel_rfl) ?_ _
   refine NoPanic.normal ?_
   go_split_ands
   clear HS
   go_wp2
   subst hnn
   subst hxs
   obtain ⟨L,S⟩:=((uH HL).turn ((Turn.alloc nO W0 _).sD)).sent (m:=⟨3,0,frm,key,serial,iv,0,0,Tier.empty⟩) hown1 hgrow (hat.imp id (fun e=>by rw [e];simp)) hlt
   go_ret
   exact ⟨rfl,_,_,(by rw [uH HE1];first|(rw [if_pos rfl];exact L)|(rw [if_pos trivial];exact L)),((uH HST).trans (Step.of_turn ((Turn.alloc nO W0 _).sD))).trans S⟩
  ·go_simp
   refine hK.out _ _ (HS _ tAD) (fun hHeld=>?_)
   clear hK K
   refine wpAnyH_ready (rs:=[4]) (by kernel_rfl) (by simp) ?_
   refine AllReadyH.cons rfl (fun K hK=>?_) AllReadyH.nil
   go_simp
   refine hK.out _ _ (HS _ tAD) (fun hHeld=>?_)
   clear hK K
   refine wpAnyH_ready (rs:=[7]) (by kernel_rfl) (by simp) ?_
   refine AllReadyH.cons rfl (fun K hK=>?_) AllReadyH.nil
   refine step_append_lies _ (by rfl) _ _ _ (by rfl) 0 37 mi _ 9 88 Tryz.underlying59 mhi mz0 mz1 mz2 rfl (by omega) g1.nv mm xs (by rfl) ((uH hN).alloc _).drew ⟨W0.heap.size,0,none⟩ 1 1 [.int .i64 3,.int .i64 0,.int .i64 frm,.string key,.int .i64 serial,.int .i64 iv,.int .i64 0,.int .i64 0,.string ⟨#[]⟩] (by rfl) (by rfl) (World.news_of_block (cs:=#[.int .i64 3,.int .i64 0,.int .i64 frm,.string key,.int .i64 serial,.int .i64 iv,.int .i64 0,.int .i64 0,.string ⟨#[]⟩]) (t:=37) (fr:=(0,0)) (heap_alloc_new W0 _)) (by simp [Value.oneCell']) (by omega) hm1 hm2 (by simp) (W0.heap.size+1) (by simp) ?_;intro gb cap w5 hown1 hgrow hat hlt;have q16:=far_cell hgrow c16 xne;have q16f:=far_froz hgrow c16 f16 xne
   refine hK.out _ _ (HS _ (tADG hgrow)) (fun hHeld=>?_)
   clear hK K
   refine tkE (i:=8) (v:=?_) rfl ?hy ?_
   case hy=>intro w hSw;(try dsimp only at hSw);go_simp;(try with_reducible rfl)
   (try go_frame)
   refine tkE (i:=9) (v:=?_) rfl ?hy ?_
   case hy=>intro w hSw;(try dsimp only at hSw);go_simp;(try with_reducible rfl)
   (try go_frame)
   refine wpAnyH_ready (rs:=[10]) (by kernel_rfl) (by simp) ?_
   refine AllReadyH.cons rfl (fun K hK=>?_) AllReadyH.nil
   go_simp
   refine hK.out _ _ (HS _ (tADGS hgrow)) (fun hHeld=>?_)
   clear hK K
   refine wpAnyH_done (by kernel_rfl) ?_ _
   refine NoPanic.normal ?_
   go_split_ands
   clear HS
   go_wp2
   subst hnn
   subst hxs
   obtain ⟨L,S⟩:=((uH HL).turn ((Turn.alloc nO W0 _).sD)).sent (m:=⟨3,0,frm,key,serial,iv,0,0,Tier.empty⟩) hown1 hgrow (hat.imp id (fun e=>by rw [e];simp)) hlt
   go_ret
   exact ⟨rfl,_,_,(by rw [uH HE1];first|(rw [if_pos rfl];exact L)|(rw [if_pos trivial];exact L)),((uH HST).trans (Step.of_turn ((Turn.alloc nO W0 _).sD))).trans S⟩
 ·have hvv:=hide hv
  have hdv:decide (iv=ver)=false:=decide_eq_false hv
  have hbv:(iv == ver)=false:=by simp [hv]
  go_wp2
  generalize hW:World.alloc _ _=W0
  have T0:Turn nO w1 W0:=by rw [← hW];exact (uH HT2).sA.sA
  have x0_0:W0.cell? ⟨w2.heap.size+1,0,none⟩=some (.int .i64 2):=by rw [← hW];exact cOf (new2_1 w2 _ _) 0
  have x0_1:W0.cell? ⟨w2.heap.size+1,1,none⟩=some (.int .i64 0):=by rw [← hW];exact cOf (new2_1 w2 _ _) 1
  have x0_2:W0.cell? ⟨w2.heap.size+1,2,none⟩=some (.int .i64 frm):=by rw [← hW];exact cOf (new2_1 w2 _ _) 2
  have x0_3:W0.cell? ⟨w2.heap.size+1,3,none⟩=some (.string key):=by rw [← hW];exact cOf (new2_1 w2 _ _) 3
  have x0_4:W0.cell? ⟨w2.heap.size+1,4,none⟩=some (.int .i64 serial):=by rw [← hW];exact cOf (new2_1 w2 _ _) 4
  have x0_5:W0.cell? ⟨w2.heap.size+1,5,none⟩=some (.int .i64 iv):=by rw [← hW];exact cOf (new2_1 w2 _ _) 5
  have x0_6:W0.cell? ⟨w2.heap.size+1,6,none⟩=some (.int .i64 0):=by rw [← hW];exact cOf (new2_1 w2 _ _) 6
  have x0_7:W0.cell? ⟨w2.heap.size+1,7,none⟩=some (.int .i64 ip):=by rw [← hW];exact cOf (new2_1 w2 _ _) 7
  have x0_8:W0.cell? ⟨w2.heap.size+1,8,none⟩=some (.string ix):=by rw [← hW];exact cOf (new2_1 w2 _ _) 8
  have hsz:W0.heap.size=w2.heap.size+1+1:=by rw [← hW];simp
  clear hW y1 y3 y4 y5
  have HL:=hide (uH HR1 W0 T0)
  have HST:Hid (Step τ own o1 w W0):=(uH HS1).trans (Step.of_turn T0)
  have c16:W0.cell? ⟨br,7,none⟩=some g1.nv:=cOf (uH HL).block 7
  have f16:W0.frozen? ⟨br,7,none⟩=false:=fOf (uH HL).block 7
  have hN:=hide (uH HL).net.row
  have xne:some br≠g1.nv.ownBlock:=fun e=>by have:=lab_ne (uH HL).blockO ((uH HL).net.mine _ e.symm);omega
  have o2w:o1 (w2.heap.size+1)=none:=uH HT1 _ (by omega)
  have nb0:¬ (w2.heap.size+1=br∨some (w2.heap.size+1)=g1.nv.ownBlock):=fun h=>h.elim (fun e=>by omega) (fun e=>by have:=(uH HL).net.mine _ e.symm;rw [o2w] at this;cases this)
  have c16a:∀ o,(W0.alloc o).cell? ⟨br,7,none⟩=some g1.nv:=fun o=>(Turn.alloc nO W0 o).cell c16 id
  have hbt:br<W0.heap.size:=(uH HL).lt
  have hne0:br≠W0.heap.size:=by omega
  generalize hxs:(u.net.map mesL).flatten=xs at *
  generalize hnn:(u.net.map mesL).length=mm at *
  have hm1:mm+1≤maxLen:=by unfold maxLen;omega
  have hm2:(mm+1)*88≤140737488355328:=by omega
  clear hsz
  skip
  have HS:=fun w' (T:Turn (fun q=>q=br∨some q=g1.nv.ownBlock) W0 w')=>And.intro T (And.intro (T.cell x0_0 (nb0)) (And.intro (T.cell x0_1 (nb0)) (And.intro (T.cell x0_2 (nb0)) (And.intro (T.cell x0_3 (nb0)) (And.intro (T.cell x0_4 (nb0)) (And.intro (T.cell x0_5 (nb0)) (And.intro (T.cell x0_6 (nb0)) (And.intro (T.cell x0_7 (nb0)) (T.cell x0_8 (nb0))))))))))
  refine wp_region_noPanic ?_
  refine wp_region_held_drew (S:=fun w'=>Turn (fun q=>q=br∨some q=g1.nv.ownBlock) W0 w'∧w'.cell? ⟨w2.heap.size+1,0,none⟩=some (.int .i64 2)∧w'.cell? ⟨w2.heap.size+1,1,none⟩=some (.int .i64 0)∧w'.cell? ⟨w2.heap.size+1,2,none⟩=some (.int .i64 frm)∧w'.cell? ⟨w2.heap.size+1,3,none⟩=some (.string key)∧w'.cell? ⟨w2.heap.size+1,4,none⟩=some (.int .i64 serial)∧w'.cell? ⟨w2.heap.size+1,5,none⟩=some (.int .i64 iv)∧w'.cell? ⟨w2.heap.size+1,6,none⟩=some (.int .i64 0)∧w'.cell? ⟨w2.heap.size+1,7,none⟩=some (.int .i64 ip)∧w'.cell? ⟨w2.heap.size+1,8,none⟩=some (.string ix)) (by kernel_rfl) (HS _ ((Turn.refl _ _).sD)) (fun hHeld=>?_)
  refine tkE (i:=0) (v:=?_) rfl ?hy ?_
  case hy=>intro w hSw;(try dsimp only at hSw);go_simp;(try with_reducible rfl)
  (try go_frame)
  refine tkE (i:=1) (v:=?_) rfl ?hy ?_
  case hy=>intro w hSw;(try dsimp only at hSw);go_simp;(try with_reducible rfl)
  (try go_frame)
  refine tkE (i:=2) (v:=?_) rfl ?hy ?_
  case hy=>intro w hSw;(try dsimp only at hSw);go_simp;(try with_reducible rfl)
  (try go_frame)
  refine tkE (i:=3) (v:=?_) rfl ?hy ?_
  case hy=>intro w hSw;(try dsimp only at hSw);go_simp;(try with_reducible rfl)
  (try go_frame)
  refine tkE (i:=5) (v:=?_) rfl ?hy ?_
  case hy=>intro w hSw;(try dsimp only at hSw);go_simp;(try with_reducible rfl)
  (try go_frame)
  refine wpAnyH_ready (rs:=[4,6]) (by kernel_rfl) (by simp) ?_
  refine AllReadyH.cons rfl (fun K hK=>?_) (AllReadyH.cons rfl (fun K hK=>?_) AllReadyH.nil)
  ·go_simp
   refine hK.out _ _ (HS _ ((Turn.refl _ _).sD)) (fun hHeld=>?_)
   clear hK K
   refine wpAnyH_ready (rs:=[6]) (by kernel_rfl) (by simp) ?_
   refine AllReadyH.cons rfl (fun K hK=>?_) AllReadyH.nil
   go_simp
   refine hK.out _ _ (HS _ tAD) (fun hHeld=>?_)
   clear hK K
   refine wpAnyH_ready (rs:=[7]) (by kernel_rfl) (by simp) ?_
   refine AllReadyH.cons rfl (fun K hK=>?_) AllReadyH.nil
   refine step_append_lies _ (by rfl) _ _ _ (by rfl) 0 37 mi _ 9 88 Tryz.underlying59 mhi mz0 mz1 mz2 rfl (by omega) g1.nv mm xs (by rfl) ((uH hN).alloc _).drew ⟨W0.heap.size,0,none⟩ 1 1 [.int .i64 2,.int .i64 0,.int .i64 frm,.string key,.int .i64 serial,.int .i64 iv,.int .i64 0,.int .i64 ip,.string ix] (by rfl) (by rfl) (World.news_of_block (cs:=#[.int .i64 2,.int .i64 0,.int .i64 frm,.string key,.int .i64 serial,.int .i64 iv,.int .i64 0,.int .i64 ip,.string ix]) (t:=37) (fr:=(0,0)) (heap_alloc_new W0 _)) (by simp [Value.oneCell']) (by omega) hm1 hm2 (by simp) (W0.heap.size+1) (by simp) ?_;intro gb cap w5 hown1 hgrow hat hlt;have q16:=far_cell hgrow c16 xne;have q16f:=far_froz hgrow c16 f16 xne
   refine hK.out _ _ (HS _ (tADG hgrow)) (fun hHeld=>?_)
   clear hK K
   refine tkE (i:=8) (v:=?_) rfl ?hy ?_
   case hy=>intro w hSw;(try dsimp only at hSw);go_simp;(try with_reducible rfl)
   (try go_frame)
   refine tkE (i:=9) (v:=?_) rfl ?hy ?_
   case hy=>intro w hSw;(try dsimp only at hSw);go_simp;(try with_reducible rfl)
   (try go_frame)
   refine wpAnyH_ready (rs:=[10]) (by kernel_rfl) (by simp) ?_
   refine AllReadyH.cons rfl (fun K hK=>?_) AllReadyH.nil
   go_simp
   refine hK.out _ _ (HS _ (tADGS hgrow)) (fun hHeld=>?_)
   clear hK K
   refine wpAnyH_done (by kernel_rfl) ?_ _
   refine NoPanic.normal ?_
   go_split_ands
   clear HS
   go_wp2
   subst hnn
   subst hxs
   obtain ⟨L,S⟩:=((uH HL).turn ((Turn.alloc nO W0 _).sD)).sent (m:=⟨2,0,frm,key,serial,iv,0,ip,ix⟩) hown1 hgrow (hat.imp id (fun e=>by rw [e];simp)) hlt
   go_ret
   exact ⟨rfl,_,_,(by rw [uH HE1];rw [if_neg (uH hvv)];exact L),((uH HST).trans (Step.of_turn ((Turn.alloc nO W0 _).sD))).trans S⟩
  ·go_simp
   refine hK.out _ _ (HS _ tAD) (fun hHeld=>?_)
   clear hK K
   refine wpAnyH_ready (rs:=[4]) (by kernel_rfl) (by simp) ?_
   refine AllReadyH.cons rfl (fun K hK=>?_) AllReadyH.nil
   go_simp
   refine hK.out _ _ (HS _ tAD) (fun hHeld=>?_)
   clear hK K
   refine wpAnyH_ready (rs:=[7]) (by kernel_rfl) (by simp) ?_
   refine AllReadyH.cons rfl (fun K hK=>?_) AllReadyH.nil
   refine step_append_lies _ (by rfl) _ _ _ (by rfl) 0 37 mi _ 9 88 Tryz.underlying59 mhi mz0 mz1 mz2 rfl (by omega) g1.nv mm xs (by rfl) ((uH hN).alloc _).drew ⟨W0.heap.size,0,none⟩ 1 1 [.int .i64 2,.int .i64 0,.int .i64 frm,.string key,.int .i64 serial,.int .i64 iv,.int .i64 0,.int .i64 ip,.string ix] (by rfl) (by rfl) (World.news_of_block (cs:=#[.int .i64 2,.int .i64 0,.int .i64 frm,.string key,.int .i64 serial,.int .i64 iv,.int .i64 0,.int .i64 ip,.string ix]) (t:=37) (fr:=(0,0)) (heap_alloc_new W0 _)) (by simp [Value.oneCell']) (by omega) hm1 hm2 (by simp) (W0.heap.size+1) (by simp) ?_;intro gb cap w5 hown1 hgrow hat hlt;have q16:=far_cell hgrow c16 xne;have q16f:=far_froz hgrow c16 f16 xne
   refine hK.out _ _ (HS _ (tADG hgrow)) (fun hHeld=>?_)
   clear hK K
   refine tkE (i:=8) (v:=?_) rfl ?hy ?_
   case hy=>intro w hSw;(try dsimp only at hSw);go_simp;(try with_reducible rfl)
   (try go_frame)
   refine tkE (i:=9) (v:=?_) rfl ?hy ?_
   case hy=>intro w hSw;(try dsimp only at hSw);go_simp;(try with_reducible rfl)
   (try go_frame)
   refine wpAnyH_ready (rs:=[10]) (by kernel_rfl) (by simp) ?_
   refine AllReadyH.cons rfl (fun K hK=>?_) AllReadyH.nil
   go_simp
   refine hK.out _ _ (HS _ (tADGS hgrow)) (fun hHeld=>?_)
   clear hK K
   refine wpAnyH_done (by kernel_rfl) ?_ _
   refine NoPanic.normal ?_
   go_split_ands
   clear HS
   go_wp2
   subst hnn
   subst hxs
   obtain ⟨L,S⟩:=((uH HL).turn ((Turn.alloc nO W0 _).sD)).sent (m:=⟨2,0,frm,key,serial,iv,0,ip,ix⟩) hown1 hgrow (hat.imp id (fun e=>by rw [e];simp)) hlt
   go_ret
   exact ⟨rfl,_,_,(by rw [uH HE1];rw [if_neg (uH hvv)];exact L),((uH HST).trans (Step.of_turn ((Turn.alloc nO W0 _).sD))).trans S⟩
theorem newR_cac (c:Conf) (n:Nat):(Tier.new c).cac n=Tier.noCac:=by
  unfold Tier.St.cac Tier.new
  dsimp only
  by_cases hn:n<c.parents.length
  ·rw [List.getD_eq_getElem?_getD,List.getElem?_replicate,if_pos hn];rfl
  ·rw [List.getD_eq_getElem?_getD,List.getElem?_replicate,if_neg hn];rfl
def noCells:Nat→List Value
  | 0=>[]
  | n+1=>[.int .i64 0,.slice none 0 0,.slice none 0 0] ++ noCells n
theorem noCells_at:∀ (n m:Nat),m<n→(noCells n)[m*3]?=some (.int .i64 0)∧(noCells n)[m*3+1]?=some (.slice none 0 0)∧(noCells n)[m*3+2]?=some (.slice none 0 0)
  | 0,_,h=>by omega
  | n+1,0,_=>⟨rfl,rfl,rfl⟩
  | n+1,m+1,h=>by
    have:=noCells_at n m (by omega)
    unfold noCells
    rw [show (m+1)*3=m*3+3 by omega]
    exact ⟨by simpa using this.1,by simpa using this.2.1,by simpa using this.2.2⟩
theorem noCells_len:∀ n,(noCells n).length=n*3
  | 0=>rfl
  | n+1=>by unfold noCells;rw [List.length_append,noCells_len n,Nat.succ_mul];simp;omega
theorem ints_flat:∀ zs:List Int,(zs.map fun n=>[Value.int .i64 n]).flatten=zs.map fun z=> .int .i64 z
  | []=>rfl
  | z :: r=>by rw [List.map_cons,List.flatten_cons,ints_flat r];rfl
theorem RLies.new {zs:List Int} {dr bu en wa:Int} (hz:zs.length≤6) (htop:∀ k,w.heap.size≤k→own k=none) {br bc:Nat} {pv:Value} (hb:w.heap.size≤br) (hc:w.heap.size≤bc) (hbc:br≠bc)
    (hblk:w'.heap[br]?=some (.cells #[pv,.int .i64 dr,.int .i64 bu,.int .i64 en,.int .i64 wa,.slice none 0 0,.slice (some ⟨bc,0,none⟩) zs.length zs.length,.slice none 0 0,.slice none 0 0,.int .i64 0] 83 (0,0)))
    (hcac:w'.heap[bc]?=some (.cells (noCells zs.length).toArray 133 (0,0)))
    (hp:w'.ownsRow w.heap.size 3 1 pv zs.length (zs.map fun z=> .int .i64 z)) (hpb:pv.ownBlock≠some br∧pv.ownBlock≠some bc) (T:Turn nO w w') :
    ∃ own' g,RLies own' τ w' br g (Tier.new ⟨zs,dr,bu,en,wa⟩)∧∀ k,k<w.heap.size→own' k=own k:=by
 let o:Own:=fun k=>if k=br then some (τ,1) else if k=bc then some (τ,4) else if pv.ownBlock=some k then some (τ,2) else own k
 have hlt:=hp.lt
 have nilRow:∀ x e size,Row o τ x w' e size (.slice none 0 0) []:=fun x e size=>⟨World.ownsRow_nil _ _ _ _,fun k hk=>by cases hk⟩
 refine ⟨o,⟨pv,.slice none 0 0,bc,fun _=> .slice none 0 0,fun _=> .slice none 0 0,fun _=> .slice none 0 0,.slice none 0 0,.slice none 0 0⟩,⟨fun k hk=>?_,?_,?_,?_,nilRow _ _ _,?_,?_,nilRow _ _ _,nilRow _ _ _,fun n hn=>?_,fun n hn=>?_,fun n hn f hf=>?_,?_⟩,fun k hk=>?_⟩
 ·have h1:k≠br:=fun e=>by have:=heap_lt hblk;omega
  have h2:k≠bc:=fun e=>by have:=heap_lt hcac;omega
  have h3:pv.ownBlock≠some k:=fun e=>by have:=(hlt k e).2;omega
  show (if k=br then _ else if k=bc then _ else if pv.ownBlock=some k then _ else own k)=none
  rw [if_neg h1,if_neg h2,if_neg h3]
  exact htop k (by have:=T.size;omega)
 ·rw [hblk]
  unfold refC Tier.new
  dsimp only
  rw [List.length_replicate]
 ·show (if br=br then some (τ,1) else _)=_
  rw [if_pos rfl]
 ·refine ⟨?_,fun k hk=>?_⟩
  ·obtain ⟨hl,hv⟩:=hp
   show w'.ownsRow 0 3 1 pv (zs.map fun n=>[Value.int .i64 n]).length (zs.map fun n=>[Value.int .i64 n]).flatten
   rw [List.length_map,ints_flat]
   refine ⟨hl,?_⟩
   rcases hv with hv|⟨gb,cap,cur,hv,_,r⟩
   ·exact Or.inl hv
   ·exact Or.inr ⟨gb,cap,cur,hv,Nat.zero_le _,r⟩
  ·have h1:k≠br:=fun e=>by rw [e] at hk;exact hpb.1 hk
   have h2:k≠bc:=fun e=>by rw [e] at hk;exact hpb.2 hk
   show (if k=br then _ else if k=bc then _ else if pv.ownBlock=some k then some (τ,2) else own k)=_
   rw [if_neg h1,if_neg h2,if_pos hk]
 ·refine ⟨(noCells zs.length).toArray,hcac,?_,fun m hm=>?_⟩
  ·show (noCells zs.length).toArray.size=(List.replicate zs.length Tier.noCac).length*3
   rw [List.size_toArray,noCells_len,List.length_replicate]
  ·have hm:m<zs.length:=by have:(Tier.new ⟨zs,dr,bu,en,wa⟩).caches.length=zs.length:=List.length_replicate;omega
   have:=noCells_at zs.length m hm
   rw [newR_cac]
   exact ⟨by rw [List.getElem?_toArray];exact this.1,by rw [List.getElem?_toArray];exact this.2.1,by rw [List.getElem?_toArray];exact this.2.2⟩
 ·show (if bc=br then _ else if bc=bc then some (τ,4) else _)=_
  rw [if_neg (Ne.symm hbc),if_pos rfl]
 ·rw [newR_cac];exact nilRow _ _ _
 ·rw [newR_cac];exact nilRow _ _ _
 ·rw [newR_cac] at hf;cases hf
 ·show (List.replicate zs.length Tier.noCac).length≤6
  rw [List.length_replicate];exact hz
 ·have h3:pv.ownBlock≠some k:=fun e=>by have:=(hlt k e).1;omega
  show (if k=br then _ else if k=bc then _ else if pv.ownBlock=some k then _ else own k)=own k
  rw [if_neg (by omega),if_neg (by omega),if_neg h3]
theorem infoIntR:(Tryz.prog.info? 3).map (fun i=>(i.zero,i.size,i.bytes))=some (some (.int .i64 0),1,8):=by kernel_rfl
theorem infoCacR:(Tryz.prog.info? 133).map (fun i=>(i.zero,i.size,i.bytes))=some (some (.agg #[.int .i64 0,.slice none 0 0,.slice none 0 0]),3,56):=by kernel_rfl
theorem run_makeCaches {N:Nat} (h:2≤N∧N≤6) (W:World):(Instr.makeSlice 81 (.int .i64 (N:Int)) (.int .i64 (N:Int))).run Tryz.prog W= .ok (.slice (some ⟨W.heap.size,0,none⟩) N N) (W.alloc (.cells (noCells N).toArray 133)):=by
  obtain ⟨i0,hi,hz0,hz1,hz2⟩:=info_parts infoCacR
  have h1:=run_make (P:=Tryz.prog) W 81 133 i0 _ Tryz.underlying81 hi hz0 .i64 .i64 (N:Int) (N:Int) (by omega) (by omega) (by rw [hz2];omega) (by omega)
  rw [hz1] at h1
  have:N=2∨N=3∨N=4∨N=5∨N=6:=by omega
  have h2:madeCells (Value.agg #[.int .i64 0,.slice none 0 0,.slice none 0 0]).cells ((N:Int).toNat*3)=(noCells N).toArray:=by
    rcases this with rfl|rfl|rfl|rfl|rfl <;> kernel_rfl
  rw [h2] at h1
  simpa using h1
theorem owns_turnR {M:Nat→Prop} {w w':World} {base base' e s n:Nat} {v:Value} {xs:List Value} (h:w.ownsRow base e s v n xs) (T:Turn M w w') (hm:∀ k,v.ownBlock=some k→¬ M k) (hb:base'≤base):w'.ownsRow base' e s v n xs:=by
  obtain ⟨hl,hv⟩:=h
  refine ⟨hl,?_⟩
  rcases hv with hv|⟨g,cap,cur,e1,e2,e3,r⟩
  ·exact Or.inl hv
  ·exact Or.inr ⟨g,cap,cur,e1,Nat.le_trans hb e2,(T.block g (heap_lt e3) (hm g (by rw [e1];rfl))).trans e3,r⟩
theorem adds (b off j:Nat):(⟨b,off,none⟩:Addr).add j=⟨b,off+j,none⟩:=by unfold Addr.add;split <;> simp_all
theorem rNew_any (a:Option Addr) (cap:Nat) (zs:List Int) (dr bu en wa:Int) (w:World) (hs:SliceAt w a zs) (hl:2≤zs.length∧zs.length≤6) :
    Calls Tryz.prog 14 #[.agg #[.slice a zs.length cap,.int .i64 dr,.int .i64 bu,.int .i64 en,.int .i64 wa]] w fun r w'=>∃ br,r= .returned (.pointer (some ⟨br,0,none⟩))∧Turn nO w w'∧∀ (own:Own) (τ:Nat),(∀ k,w.heap.size≤k→own k=none)→∃ own' g,RLies own' τ w' br g (Tier.new ⟨zs,dr,bu,en,wa⟩)∧∀ k,k<w.heap.size→own' k=own k:=by
 obtain ⟨ii,ihi,iz0,iz1,iz2⟩:=info_parts infoIntR
 obtain ⟨b,off,rfl,hr⟩:=hs (by omega)
 have hmk:=fun W=>run_makeCaches hl W
 have hnews:∀ (W:World) (T:Turn nO w W),∀ j u,(zs.map fun z=>Value.int .i64 z)[j]?=some u→W.cell? ((⟨b,off,none⟩:Addr).add j)=some u:=fun W T j u hu=>by
   rw [List.getElem?_map] at hu
   obtain ⟨z,hz,rfl⟩:=Option.map_eq_some_iff.1 hu
   rw [adds]
   refine T.cell ?_ id
   rw [hr j (List.getElem?_eq_some_iff.1 hz).1,List.getD_eq_getElem?_getD,hz]
   rfl
 have Hnews:=hide hnews
 have hone:∀ u∈zs.map (fun z=>Value.int .i64 z),u.oneCell'=true:=by
   intro u hu
   obtain ⟨z,_,rfl⟩:=List.mem_map.1 hu
   rfl
 have hlen:(zs.map fun z=>Value.int .i64 z).length=zs.length*1:=by rw [List.length_map,Nat.mul_one]
 have HX:=hide (And.intro hone hlen)
 have HZ:=hide hl
 have HN:Hid (0<zs.length∧0+zs.length≤maxLen∧(0+zs.length)*8≤140737488355328):=⟨by omega,by unfold maxLen;omega,by omega⟩
 have HF:∀ W:World,Turn nO w W→(∃ ty,W.heap[w.heap.size+1]?=some (.cells #[.slice none 0 0,.int .i64 dr,.int .i64 bu,.int .i64 en,.int .i64 wa,.slice none 0 0,.slice none 0 0,.slice none 0 0,.slice none 0 0,.int .i64 0] ty (0,0)))→True:=fun _ _ _=>trivial
 clear hr hs hnews hone hlen HF
 generalize hN:zs.length=N at *
 clear hl
 go_enter Tryz.func14,Tryz.ntmps14
 go_wp2
 generalize hW:World.alloc _ _=W0
 have T0:Turn nO w W0:=by rw [← hW];exact (Turn.alloc _ _ _).sA
 have hsz:W0.heap.size=w.heap.size+1+1:=by rw [← hW];simp
 have b0:W0.heap[w.heap.size]?=some (.cells #[.slice (some ⟨b,off,none⟩) N cap,.int .i64 dr,.int .i64 bu,.int .i64 en,.int .i64 wa] 35 (0,0)):=by rw [← hW];exact new2_0 _ _ _
 have b1:W0.heap[w.heap.size+1]?=some (.cells #[.slice none 0 0,.int .i64 dr,.int .i64 bu,.int .i64 en,.int .i64 wa,.slice none 0 0,.slice none 0 0,.slice none 0 0,.slice none 0 0,.int .i64 0] 83 (0,0)):=by rw [← hW];exact new2_1 _ _ _
 have x0:W0.cell? ⟨w.heap.size,0,none⟩=some (.slice (some ⟨b,off,none⟩) N cap):=cOf b0 0
 have y0:W0.cell? ⟨w.heap.size+1,0,none⟩=some (.slice none 0 0):=cOf b1 0
 have y0f:W0.frozen? ⟨w.heap.size+1,0,none⟩=false:=fOf b1 0
 have y6:W0.cell? ⟨w.heap.size+1,6,none⟩=some (.slice none 0 0):=cOf b1 6
 have y6f:W0.frozen? ⟨w.heap.size+1,6,none⟩=false:=fOf b1 6
 have HT:=hide (And.intro T0 (And.intro hsz b1))
 clear hW b0 b1 T0
 have hszd:W0.drew.heap.size=w.heap.size+1+1:=hsz
 go_region_law ((refine step_append_lies _ (by rfl) _ _ _ (by rfl) (w.heap.size+1+1) 3 ii _ 1 8 Tryz.underlying33 ihi iz0 iz1 iz2 rfl (by omega) (.slice none 0 0) 0 [] (by rfl) (World.ownsRow_nil _ _ _ _) ⟨b,off,none⟩ N cap (zs.map fun z=> .int .i64 z) (by rfl) (uH HX).2 (uH Hnews _ ((uH HT).1.sD)) (uH HX).1 (uH HN).1 (uH HN).2.1 (uH HN).2.2 (Nat.le_of_eq hszd.symm) (w.heap.size+1+1) hszd ?_;intro gb cp w1 hown1 hgrow hat hlt;have q0:=(hgrow.cell_far ⟨w.heap.size+1,0,none⟩ (by rw [hszd];exact Nat.lt_succ_self _) (fun e=>by cases e)).trans y0;have q0f:=(hgrow.frozen_far ⟨w.heap.size+1,0,none⟩ (by rw [hszd];exact Nat.lt_succ_self _) (fun e=>by cases e)).trans y0f;have q6:=(hgrow.cell_far ⟨w.heap.size+1,6,none⟩ (by rw [hszd];exact Nat.lt_succ_self _) (fun e=>by cases e)).trans y6;have q6f:=(hgrow.frozen_far ⟨w.heap.size+1,6,none⟩ (by rw [hszd];exact Nat.lt_succ_self _) (fun e=>by cases e)).trans y6f;have p0:=(hgrow.cell_far ⟨w.heap.size,0,none⟩ (by rw [hszd];exact Nat.lt_succ_of_lt (Nat.lt_succ_self _)) (fun e=>by cases e)).trans x0))
 all_goals (
   have HG:=hide (And.intro hown1 (And.intro hgrow (And.intro hat hlt)))
   clear hown1 hgrow hat hlt q0 q0f
   generalize hW2:World.setCell w1 _ _=W2
   have hbk:W2.heap[w.heap.size+1]?=some (.cells #[.slice (some ⟨gb,0,none⟩) N cp,.int .i64 dr,.int .i64 bu,.int .i64 en,.int .i64 wa,.slice none 0 0,.slice none 0 0,.slice none 0 0,.slice none 0 0,.int .i64 0] 83 (0,0)):=by
     rw [← hW2]
     refine heap_set (i:=0) (cs:=#[.slice none 0 0,.int .i64 dr,.int .i64 bu,.int .i64 en,.int .i64 wa,.slice none 0 0,.slice none 0 0,.slice none 0 0,.slice none 0 0,.int .i64 0]) (((uH HG).2.1.block _ ?_ (fun e=>by cases e)).trans (uH HT).2.2)
     rw [hszd];exact Nat.lt_succ_self _
   have hbl:=heap_lt hbk
   have TA:∀ o,Turn nO W2 (W2.alloc o):=fun o=>Turn.alloc _ _ _
   have z0:W2.cell? ⟨w.heap.size,0,none⟩=some (.slice (some ⟨b,off,none⟩) N cap):=by rw [← hW2,World.cell?_of_block (hSO (by show w.heap.size≠w.heap.size+1;omega))];exact p0
   have z6:∀ o,(W2.alloc o).cell? ⟨w.heap.size+1,6,none⟩=some (.slice none 0 0):=fun o=>(TA o).cell (cOf hbk 6) id
   have z6f:∀ o,(W2.alloc o).frozen? ⟨w.heap.size+1,6,none⟩=false:=fun o=>(TA o).froz (cOf hbk 6) id (fOf hbk 6)
   have HB:=hide (And.intro hbk (And.intro hbl hW2))
   clear hbk hbl hW2 TA q6 q6f p0
   go_wp2
   go_ret
   obtain ⟨hbk,hbl,hW2⟩:=uH HB
   obtain ⟨hown1,hgrow,hat,hlt⟩:=uH HG
   obtain ⟨T0,_,b1⟩:=uH HT
   have hw1:Turn nO W0 w1:=(Turn.drew _ _).sT (Turn.grown hgrow) (fun _ _ e=>by cases e)
   have hs1:w.heap.size+1+1≤w1.heap.size:=by have:=hw1.size;omega
   have T1:Turn nO w W2:=by rw [← hW2];exact (T0.sT hw1 (fun _ _ h=>h)).sS (Or.inl (Nat.le_succ _))
   have hs2:W2.heap.size=w1.heap.size:=by rw [← hW2];simp
   have hgb:gb=w.heap.size+1+1:=hat.resolve_left (fun e=>by cases e)
   have TS:Turn (fun k=>k=w.heap.size+1) w1 W2:=by rw [← hW2];exact (Turn.refl _ _).sS (Or.inr rfl)
   have TU:∀ o v,Turn (fun k=>k=w.heap.size+1) W2 ((W2.alloc o).setCell ⟨w.heap.size+1,6,none⟩ v):=fun o v=>(Turn.alloc _ _ _).sS (Or.inr rfl)
   refine ⟨_,rfl,T1.sA.sS (Or.inl (Nat.le_succ _)),fun own τ htop=>?_⟩
   have hz:=(uH HZ).2
   subst hN
   have hgk:∀ k,(Value.slice (some ⟨gb,0,none⟩) zs.length cp).ownBlock=some k→gb=k:=fun k hk=>Option.some.inj hk
   have hfar:∀ k,(Value.slice (some ⟨gb,0,none⟩) zs.length cp).ownBlock=some k→¬ k=w.heap.size+1:=fun k hk e=>absurd (hgk k hk) (by omega)
   refine RLies.new (br:=w.heap.size+1) (bc:=W2.heap.size) (pv:= .slice (some ⟨gb,0,none⟩) zs.length cp) hz htop (Nat.le_succ _) (by omega) (by omega) ?_ ?_ ?_ ?_ (T1.sA.sS (Or.inl (Nat.le_succ _)))
   ·exact heap_set (i:=6) ((Turn.alloc nO W2 _).block _ hbl id |>.trans hbk)
   ·rw [hSO (by show W2.heap.size≠w.heap.size+1;omega)]
    exact new1_0 _ _
   ·have h0:=hown1
    rw [Nat.zero_add,List.nil_append] at h0
    exact owns_turnR (owns_turnR h0 TS hfar (Nat.le_refl _)) (TU _ _) hfar (by omega)
   ·exact ⟨fun e=>hfar _ e rfl,fun e=>absurd (hgk _ e) (by omega)⟩)
def seenL (t:St) (n:Nat) (e:Kept):List Value:=[.string e.key,.int .i64 e.ver,.int .i64 e.pres,.string e.val,.int .i64 (t.age n e)]
def entE (t:St) (n:Int):Int:=if cacheB t n=false then 2 else 0
def entS (t:St) (n:Int):List (List Value):=if cacheB t n=false then [] else (t.cac n.toNat).ents.map (seenL t n.toNat)
theorem infoEntryR:(Tryz.prog.info? 66).map (fun i=>(i.zero,i.size,i.bytes))=some (some (.agg #[.string ⟨#[]⟩,.int .i64 0,.int .i64 0,.string ⟨#[]⟩,.int .i64 0]),5,56):=by kernel_rfl
theorem rEntries_any (h:RLies own τ w br g t) (n:Int) (hf:∀ m:Nat,0<m→m<t.caches.length→CFine t m) :
    Calls Tryz.prog 36 #[.pointer (some ⟨br,0,none⟩),.int .i64 n] w fun r w'=>∃ v,r= .returned (.tuple #[v,.int .i64 (entE t n)])∧Grow w w' 66 5 v (entS t n):=by
 have KC:=hide (rcache_any h n)
 cases hc:cacheB t n with
 | false =>
   have e1:entE t n=2:=by unfold entE;rw [hc];rfl
   have e2:entS t n=[]:=by unfold entS;rw [hc];rfl
   rw [e1,e2]
   rw [show (decide (1≤n) && decide (n<(t.caches.length:Int)))=false from hc] at KC
   have HG:Hid (Grow w w 66 5 (.slice none 0 0) []):=Grow.nil _ _ _
   clear h e1 e2 hc hf
   go_enter Tryz.func36,Tryz.ntmps36
   go_wp2_with fail
   refine (uH KC).mono ?_
   rintro e w1 ⟨rfl,rfl⟩
   go_wp2
   exact bodyPost_ret (v:= .tuple #[.slice none 0 0,.int .i64 2]) (by simp [results,Tryz.results36,go_sem]) rfl ⟨_,rfl,uH HG⟩
 | true =>
   obtain ⟨m,rfl,m0,m1⟩:=cacheB_nat hc
   rw [show (decide (1≤(m:Int)) && decide ((m:Int)<(t.caches.length:Int)))=true from hc] at KC
   have e1:entE t m=0:=by unfold entE;rw [hc];rfl
   have e2:entS t m=(t.cac m).ents.map (seenL t m):=by unfold entS;rw [hc,if_neg (by decide),Int.toNat_natCast]
   rw [e1,e2]
   obtain ⟨ti,hi,hz0,hz1,hz2⟩:=info_parts infoEntryR
   have hcf:=hf m m0 m1
   have HH:=hide h
   have KA:=hide (fun (w':World) (T:Turn nO w w') (e:Kept) (he:e∈(t.cac m).ents)=>rage_any ((uH HH).turn T) m1 e (hcf.fine e he))
   obtain ⟨va,vc,hv⟩:=rowForm (h.ents m m1)
   have d6:w.cell? ⟨br,6,none⟩=some (.slice (some ⟨g.bc,0,none⟩) t.caches.length t.caches.length):=cOf h.block 6
   obtain ⟨_,k1,_,_⟩:=h.cacs.at_ m1
   rw [hv] at k1
   have HA:Hid (∀ j x,(t.cac m).ents[j]?=some x→∃ b,va=some ⟨b,0,none⟩∧w.cell? ⟨b,j*6,none⟩=some (.string x.key)∧w.cell? ⟨b,j*6+1,none⟩=some (.int .i64 x.ver)∧w.cell? ⟨b,j*6+2,none⟩=some (.int .i64 x.pres)∧w.cell? ⟨b,j*6+3,none⟩=some (.string x.val)∧w.cell? ⟨b,j*6+4,none⟩=some (.int .i64 x.base)∧w.cell? ⟨b,j*6+5,none⟩=some (.int .i64 x.since)):=fun j x hj=>by
     obtain ⟨b,c',e',_,_,hc,_⟩:=rowAt (h.ents m m1) (fun _=>rfl) hj
     rw [hv] at e'
     cases e'
     exact ⟨b,rfl,hc 0 (by omega),hc 1 (by omega),hc 2 (by omega),hc 3 (by omega),hc 4 (by omega),hc 5 (by omega)⟩
   have n0:(0:Int)≤(m:Int):=by omega
   have n1:(m:Int)<(t.caches.length:Int):=by omega
   have HL:=hide hcf.len
   have hbr:=h.lt
   generalize t.caches.length=ml at *
   generalize hSL:seenL t m=sl at *
   have HSL:=hide hSL
   clear hSL
   generalize (t.cac m).ents=old at *
   generalize hN:old.length=N at *
   have HG0:Hid (Grow w w 66 5 (.slice none 0 0) ((old.take 0).map sl)):=Grow.nil _ _ _
   clear h hv hcf hf e1 e2 hc
   go_enter Tryz.func36,Tryz.ntmps36
   go_wp2_with fail
   refine (uH KC).mono ?_
   rintro e w1 ⟨rfl,rfl⟩
   clear KC
   go_wp2
   go_loopw [7,9,10] (fun l i _ wr=>∃ (j:Nat) (v:Value),j≤N∧i= .int .i64 (j:Int)∧l=v∧Hid (Grow w1 wr 66 5 v ((old.take j).map sl))) (fun _ i _ _=>N - (intOf i).toNat)
   case atStart=>exact ⟨0,_,Nat.zero_le _,rfl,rfl,HG0⟩
   case round =>
     obtain ⟨j,v,jN,rfl,rfl,HG⟩:=hrel
     clear HG0
     have hjw:IntKind.i64.wrap ((j:Int)+1)=(j:Int)+1:=by rw [IntKind.wrap_i64];have:=uH HL;omega
     obtain ⟨va',vc',hv'⟩:=row_form (uH HG).row
     rw [List.length_map,List.length_take] at hv'
     have hmin:min j old.length=j:=by omega
     rw [hmin] at hv'
     subst hv'
     have TW:=(uH HG).turn
     by_cases hlt:j<N
     ·obtain ⟨x,hx⟩:∃ x,old[j]?=some x:=⟨_,List.getElem?_eq_getElem (by omega)⟩
      obtain ⟨b,rfl,c0,c1,c2,c3,c4,c5⟩:=uH HA j x hx
      have hbb:Hid (b<w1.heap.size):=cell_lt c0
      have c0:=TW.cell c0 id
      have c1:=TW.cell c1 id
      have c2:=TW.cell c2 id
      have c3:=TW.cell c3 id
      have c4:=TW.cell c4 id
      have c5:=TW.cell c5 id
      have j0:(0:Int)≤(j:Int):=by omega
      have j1:(j:Int)<(N:Int):=by omega
      have KA2:=hide (uH KA wr TW x (List.mem_of_getElem? hx))
      have HSX:Hid (sl x=[.string x.key,.int .i64 x.ver,.int .i64 x.pres,.string x.val,.int .i64 (t.age m x)]):=by show _=_;rw [← uH HSL];rfl
      have HST:Hid ((old.take (j+1)).map sl=(old.take j).map sl ++ [sl x]):=by show _=_;rw [List.take_add_one,hx];simp
      generalize t.age m x=ag at *
      unfold keptV keptL at KA2
      obtain ⟨xk,xv,xp,xx,xb,xs'⟩:=x
      dsimp only at *
      clear TW hx
      go_wp2_with fail
      refine (uH KA2).mono ?_
      rintro e W0 ⟨rfl,T9⟩
      have c0:=T9.cell c0 id
      have c1:=T9.cell c1 id
      have c2:=T9.cell c2 id
      have c3:=T9.cell c3 id
      have HGV:=hide ((uH HG).more T9)
      have hrow:=hide (uH HGV).row
      have hlm:((old.take j).map sl).length=j:=by rw [List.length_map,List.length_take];omega
      rw [hlm] at hrow
      have nb0:¬ (some b=(Value.slice va' j vc').ownBlock):=fun e=>absurd ((uH hrow).lt _ e.symm).1 (by have:=uH hbb;omega)
      have hwW:w1.heap.size≤W0.heap.size:=(uH HGV).turn.size
      have hm1:j+1≤maxLen:=by unfold maxLen;have:=uH HL;omega
      have hm2:(j+1)*56≤140737488355328:=by have:=uH HL;omega
      generalize hxs:((old.take j).map sl).flatten=zs at *
      clear HG T9 KA2 c4 c5
      go_wp2
      have HS:=fun w' (T:Turn (fun q=>some q=(Value.slice va' j vc').ownBlock) W0 w')=>And.intro T (And.intro (T.cell c0 (nb0)) (And.intro (T.cell c1 (nb0)) (And.intro (T.cell c2 (nb0)) (T.cell c3 (nb0)))))
      refine wp_region_noPanic ?_
      refine wp_region_held_drew (S:=fun w'=>Turn (fun q=>some q=(Value.slice va' j vc').ownBlock) W0 w'∧w'.cell? ⟨b,j*6,none⟩=some (.string xk)∧w'.cell? ⟨b,j*6+1,none⟩=some (.int .i64 xv)∧w'.cell? ⟨b,j*6+2,none⟩=some (.int .i64 xp)∧w'.cell? ⟨b,j*6+3,none⟩=some (.string xx)) (by kernel_rfl) (HS _ ((Turn.refl _ _).sD)) (fun hHeld=>?_)
      refine tkE (i:=0) (v:=?_) rfl ?hy ?_
      case hy=>intro w hSw;(try dsimp only at hSw);go_simp;(try with_reducible rfl)
      (try go_frame)
      refine tkE (i:=1) (v:=?_) rfl ?hy ?_
      case hy=>intro w hSw;(try dsimp only at hSw);go_simp;(try with_reducible rfl)
      (try go_frame)
      refine tkE (i:=2) (v:=?_) rfl ?hy ?_
      case hy=>intro w hSw;(try dsimp only at hSw);go_simp;(try with_reducible rfl)
      (try go_frame)
      refine tkE (i:=3) (v:=?_) rfl ?hy ?_
      case hy=>intro w hSw;(try dsimp only at hSw);go_simp;(try with_reducible rfl)
      (try go_frame)
      refine tkE (i:=4) (v:=?_) rfl ?hy ?_
      case hy=>intro w hSw;(try dsimp only at hSw);go_simp;(try with_reducible rfl)
      (try go_frame)
      refine tkE (i:=5) (v:=?_) rfl ?hy ?_
      case hy=>intro w hSw;(try dsimp only at hSw);go_simp;(try with_reducible rfl)
      (try go_frame)
      refine tkE (i:=6) (v:=?_) rfl ?hy ?_
      case hy=>intro w hSw;(try dsimp only at hSw);go_simp;(try with_reducible rfl)
      (try go_frame)
      refine tkE (i:=7) (v:=?_) rfl ?hy ?_
      case hy=>intro w hSw;(try dsimp only at hSw);go_simp;(try with_reducible rfl)
      (try go_frame)
      refine tkE (i:=8) (v:=?_) rfl ?hy ?_
      case hy=>intro w hSw;(try dsimp only at hSw);go_simp;(try with_reducible rfl)
      (try go_frame)
      refine tkE (i:=9) (v:=?_) rfl ?hy ?_
      case hy=>intro w hSw;(try dsimp only at hSw);go_simp;(try with_reducible rfl)
      (try go_frame)
      refine tkE (i:=10) (v:=?_) rfl ?hy ?_
      case hy=>intro w hSw;(try dsimp only at hSw);go_simp;(try with_reducible rfl)
      (try go_frame)
      refine tkE (i:=11) (v:=?_) rfl ?hy ?_
      case hy=>intro w hSw;(try dsimp only at hSw);go_simp;(try with_reducible rfl)
      (try go_frame)
      refine tkE (i:=12) (v:=?_) rfl ?hy ?_
      case hy=>intro w hSw;(try dsimp only at hSw);go_simp;(try with_reducible rfl)
      (try go_frame)
      refine tkE (i:=13) (v:=?_) rfl ?hy ?_
      case hy=>intro w hSw;(try dsimp only at hSw);go_simp;(try with_reducible rfl)
      (try go_frame)
      refine tkE (i:=14) (v:=?_) rfl ?hy ?_
      case hy=>intro w hSw;(try dsimp only at hSw);go_simp;(try with_reducible rfl)
      (try go_frame)
      refine tkE (i:=15) (v:=?_) rfl ?hy ?_
      case hy=>intro w hSw;(try dsimp only at hSw);go_simp;(try with_reducible rfl)
      (try go_frame)
      refine tkE (i:=16) (v:=?_) rfl ?hy ?_
      case hy=>intro w hSw;(try dsimp only at hSw);go_simp;(try with_reducible rfl)
      (try go_frame)
      refine tkE (i:=17) (v:=?_) rfl ?hy ?_
      case hy=>intro w hSw;(try dsimp only at hSw);go_simp;(try with_reducible rfl)
      (try go_frame)
      refine tkE (i:=18) (v:=?_) rfl ?hy ?_
      case hy=>intro w hSw;(try dsimp only at hSw);go_simp;(try with_reducible rfl)
      (try go_frame)
      refine tkE (i:=19) (v:=?_) rfl ?hy ?_
      case hy=>intro w hSw;(try dsimp only at hSw);go_simp;(try with_reducible rfl)
      (try go_frame)
      refine tkE (i:=20) (v:=?_) rfl ?hy ?_
      case hy=>intro w hSw;(try dsimp only at hSw);go_simp;(try with_reducible rfl)
      (try go_frame)
      refine tkE (i:=21) (v:=?_) rfl ?hy ?_
      case hy=>intro w hSw;(try dsimp only at hSw);go_simp;(try with_reducible rfl)
      (try go_frame)
      refine tkE (i:=22) (v:=?_) rfl ?hy ?_
      case hy=>intro w hSw;(try dsimp only at hSw);go_simp;(try with_reducible rfl)
      (try go_frame)
      refine tkE (i:=23) (v:=?_) rfl ?hy ?_
      case hy=>intro w hSw;(try dsimp only at hSw);go_simp;(try with_reducible rfl)
      (try go_frame)
      refine tkE (i:=24) (v:=?_) rfl ?hy ?_
      case hy=>intro w hSw;(try dsimp only at hSw);go_simp;(try with_reducible rfl)
      (try go_frame)
      refine tkE (i:=25) (v:=?_) rfl ?hy ?_
      case hy=>intro w hSw;(try dsimp only at hSw);go_simp;(try with_reducible rfl)
      (try go_frame)
      refine tkE (i:=26) (v:=?_) rfl ?hy ?_
      case hy=>intro w hSw;(try dsimp only at hSw);go_simp;(try with_reducible rfl)
      (try go_frame)
      refine wpAnyH_ready (rs:=[27]) (by kernel_rfl) (by simp) ?_
      refine AllReadyH.cons rfl (fun K hK=>?_) AllReadyH.nil
      go_simp
      refine hK.out _ _ (HS _ tAD) (fun hHeld=>?_)
      clear hK K
      refine wpAnyH_ready (rs:=[28]) (by kernel_rfl) (by simp) ?_
      refine AllReadyH.cons rfl (fun K hK=>?_) AllReadyH.nil
      refine step_append_lies _ (by rfl) _ _ _ (by rfl) w1.heap.size 66 ti _ 5 56 Tryz.underlying64 hi hz0 hz1 hz2 rfl (by omega) (.slice va' j vc') j zs (by rfl) ((uH hrow).alloc _).drew ⟨W0.heap.size,0,none⟩ 1 1 [.string xk,.int .i64 xv,.int .i64 xp,.string xx,.int .i64 ag] (by rfl) (by rfl) (World.news_of_block (cs:=#[.string xk,.int .i64 xv,.int .i64 xp,.string xx,.int .i64 ag]) (t:=66) (fr:=(0,0)) (heap_alloc_new W0 _)) (by simp [Value.oneCell']) (by omega) hm1 hm2 (by simp;omega) (W0.heap.size+1) (by simp) ?_;intro gb cap w5 hown1 hgrow hat hlt
      refine hK.out _ _ (HS _ (tAD.sT (Turn.grown hgrow) (fun _ _ h=>h))) (fun hHeld=>?_)
      clear hK K
      refine tkE (i:=29) (v:=?_) rfl ?hy ?_
      case hy=>intro w hSw;(try dsimp only at hSw);go_simp;(try with_reducible rfl)
      (try go_frame)
      refine wpAnyH_done (by kernel_rfl) ?_ _
      refine NoPanic.normal ?_
      go_split_ands
      clear HS
      have HG5:Hid (Grow w1 w5 66 5 (.slice (some ⟨gb,0,none⟩) (j+1) cap) ((old.take (j+1)).map sl)):=⟨((uH HGV).turn.sA.sD).sT (Turn.grown hgrow) (fun k hk he=>absurd ((uH hrow).lt k he.symm).1 (by omega)),by rw [uH HST,List.length_append,hlm,List.flatten_append,hxs,uH HSX];simpa using hown1⟩
      clear hown1 hgrow hat hrow HGV c0 c1 c2 c3
      go_wp2
      go_roundw
      case rel=>exact ⟨j+1,_,by omega,by go_num,rfl,HG5⟩
      case measure=>simp [intOf];omega
     ·have j1:¬ (j:Int)<(N:Int):=by omega
      have hall:old.take j=old:=List.take_of_length_le (by omega)
      have HE:Hid (Grow w1 wr 66 5 (.slice va' j vc') (old.map sl)):=by have:=uH HG;rw [hall] at this;exact this
      clear HG hall TW
      go_wp2
      exact bodyPost_ret (v:= .tuple #[.slice va' j vc',.int .i64 0]) (by simp [results,Tryz.results36,go_sem]) rfl ⟨_,rfl,uH HE⟩
end
end Go.Proofs.YtpdkojgepagbnaaGreatDoor
