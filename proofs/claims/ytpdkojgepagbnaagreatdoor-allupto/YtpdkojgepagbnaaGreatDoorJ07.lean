/-
  A message is sent: it stands last in the net.
  One who asked is refused: a client by an answer, a child by a message.
  One who asked is told: a client by an answer, a child by a message.
  A fetch is over: it is taken out, and who waited is handed out.
  All who wait for a fetch are refused.
-/
import Derived.Test.YtpdkojgepagbnaaGreatDoorJ06
import Derived.Deep.RegionLaw
namespace Go.Proofs.YtpdkojgepagbnaaGreatDoor
set_option maxRecDepth 100000
set_option maxHeartbeats 8000000
section
open Go.RowKit
open Tier (Mes Ans Conf)
attribute [local go_sem ↓] Go.wp_at_zero Go.wp_at_succ
theorem far_cell {W w1:World} {o:Obj} {row:Option Nat} {a:Addr} {v:Value} (hg:((W.alloc o).drew).grownBy w1 row) (hc:W.cell? a=some v) (hne:some a.block≠row):w1.cell? a=some v:=by
  have T:Turn nO W (W.alloc o).drew:=(Turn.alloc _ _ _).sD
  rw [hg.cell_far a (Nat.lt_of_lt_of_le (cell_lt hc) T.size) hne]
  exact T.cell hc id
theorem far_froz {W w1:World} {o:Obj} {row:Option Nat} {a:Addr} {v:Value} (hg:((W.alloc o).drew).grownBy w1 row) (hc:W.cell? a=some v) (hf:W.frozen? a=false) (hne:some a.block≠row):w1.frozen? a=false:=by
  have T:Turn nO W (W.alloc o).drew:=(Turn.alloc _ _ _).sD
  rw [World.frozen?_of_block (hg.block a.block (Nat.lt_of_lt_of_le (cell_lt hc) T.size) hne)]
  exact T.froz hc id hf
theorem infoMes:(Tryz.prog.info? 37).map (fun i=>(i.zero,i.size,i.bytes))=some (some (.agg #[.int .i64 0,.int .i64 0,.int .i64 0,.string ⟨#[]⟩,.int .i64 0,.int .i64 0,.int .i64 0,.int .i64 0,.string ⟨#[]⟩]),9,88):=by kernel_rfl
theorem infoAns:(Tryz.prog.info? 63).map (fun i=>(i.zero,i.size,i.bytes))=some (some (.agg #[.int .i64 0,.int .i64 0,.int .i64 0,.int .i64 0,.int .i64 0,.string ⟨#[]⟩,.int .i64 0]),7,64):=by kernel_rfl
def mesV (m:Mes):Value:= .agg (mesL m).toArray
theorem send_any (own:Own) (τ bt:Nat) (g:Gh) (s:PS) (m:Mes) (w:World) (h:Lies own τ w bt g s) (hlen:s.net.length<1000000000000) :
    Calls Tryz.prog 83 #[.pointer (some ⟨bt,0,none⟩),mesV m] w fun r w'=>r= .returned (.tuple #[])∧∃ own' g',Lies own' τ w' bt g' { s with net:=s.net ++ [m] }∧Step τ own own' w w'∧g.Like g':=by
 obtain ⟨i0,hi,hz0,hz1,hz2⟩:=info_parts infoMes
 unfold mesV
 go_enter Tryz.func83,Tryz.ntmps83
 simp only [mesL]
 go_wp2
 generalize hW:World.alloc _ _=W0
 have T0:Turn nO w W0:=by rw [← hW];exact (Turn.alloc _ _ _)
 have hsz:W0.heap.size=w.heap.size+1:=by rw [← hW];simp
 have x0:∃ ty,W0.heap[w.heap.size]?=some (.cells #[.int .i64 m.kind,.int .i64 m.frm,.int .i64 m.to,.string m.key,.int .i64 m.serial,.int .i64 m.ver,.int .i64 m.age,.int .i64 m.pres,.string m.val] ty (0,0)):=by rw [← hW];exact ⟨_,new1_0 _ _⟩
 obtain ⟨x0_0,x0_1,x0_2,x0_3,x0_4,x0_5,x0_6,x0_7,x0_8⟩:=eC9 x0
 have HL:=hide (h.turn T0)
 have hbt:bt<w.heap.size:=h.tier.lt
 have c15:W0.cell? ⟨bt,15,none⟩=some g.nv:=cOf (uH HL).tier.block 15
 have f15:W0.frozen? ⟨bt,15,none⟩=false:=fOf (uH HL).tier.block 15
 have hN:=hide (uH HL).net.row
 have hNb:Hid (∀ k,some k=g.nv.ownBlock→k<w.heap.size∧k≠bt):=fun k hk=>⟨h.net.lt hk.symm,fun e=>by have:=h.net.mine k hk.symm;rw [e,h.tierO] at this;cases this⟩
 have hlen':(s.net.map mesL).length<1000000000000:=by simpa using hlen
 have hne0:bt≠w.heap.size+1:=by omega
 have hne1:bt≠w.heap.size:=by omega
 clear hW
 have HH:=hide h
 clear h hlen
 generalize hxs:(s.net.map mesL).flatten=xs at *
 generalize hn:(s.net.map mesL).length=n at *
 have hm1:n+1≤maxLen:=by unfold maxLen;omega
 have hm2:(n+1)*88≤140737488355328:=by omega
 go_region_law ((refine step_append_lies _ (by rfl) _ _ _ (by rfl) 0 37 i0 _ 9 88 Tryz.underlying59 hi hz0 hz1 hz2 rfl (by omega) g.nv n xs (by rfl) ((uH hN).alloc _).drew ⟨w.heap.size+1,0,none⟩ 1 1 [.int .i64 m.kind,.int .i64 m.frm,.int .i64 m.to,.string m.key,.int .i64 m.serial,.int .i64 m.ver,.int .i64 m.age,.int .i64 m.pres,.string m.val] (by rfl) (by rfl) (World.news_of_block (cs:=#[.int .i64 m.kind,.int .i64 m.frm,.int .i64 m.to,.string m.key,.int .i64 m.serial,.int .i64 m.ver,.int .i64 m.age,.int .i64 m.pres,.string m.val]) (t:=37) (fr:=(0,0)) (hsz ▸ heap_alloc_new W0 _)) (by simp [Value.oneCell']) (by omega) hm1 hm2 (by simp) (w.heap.size+1+1) (by simp [hsz]) ?_;intro gb cap w1 hown1 hgrow hat hlt;have q15:=far_cell hgrow c15 (fun e=>(uH hNb _ e).2 rfl);have q15f:=far_froz hgrow c15 f15 (fun e=>(uH hNb _ e).2 rfl)))
 all_goals go_end0
 all_goals subst hn
 all_goals subst hxs
 all_goals obtain ⟨L,S⟩:=((uH HL).turn ((Turn.alloc nO W0 _).sD)).sent (m:=m) hown1 hgrow (hat.imp id (fun e=>by rw [e];simp [hsz])) hlt
 all_goals exact ⟨rfl,_,_,L,((Step.of_turn T0).trans (Step.of_turn ((Turn.alloc nO W0 _).sD))).trans S,⟨rfl,rfl,rfl,rfl,rfl,rfl⟩⟩
def wtV (x:Wt):Value:= .agg #[.int .i64 x.child,.int .i64 x.serial,.int .i64 x.tag,.int .i64 x.id]
def none8:ByteArray:=⟨#[]⟩
def PS.refuse (s:PS) (n:Nat) (k:ByteArray) (x:Wt):PS :=
  if x.child=0 then { s with answers:=s.answers ++ [⟨n,x.id,2,0,0,none8,0⟩] }
  else { s with net:=s.net ++ [⟨4,n,x.child,k,x.serial,0,0,0,none8⟩] }
theorem refuse_client (own:Own) (τ bt:Nat) (g:Gh) (s:PS) (n:Nat) (k:ByteArray) (x:Wt) (w:World) (h:Lies own τ w bt g s) (hlen:s.answers.length<1000000000000) (hc:x.child=0) :
    Calls Tryz.prog 117 #[.pointer (some ⟨bt,0,none⟩),placeV (n,k),wtV x] w fun r w'=>r= .returned (.tuple #[])∧∃ own' g',Lies own' τ w' bt g' { s with answers:=s.answers ++ [⟨n,x.id,2,0,0,none8,0⟩] }∧Step τ own own' w w'∧g.Like g':=by
 obtain ⟨i0,hi,hz0,hz1,hz2⟩:=info_parts infoAns
 obtain ⟨child,serial,tag,cid⟩:=x
 dsimp only at hc
 subst hc
 unfold placeV wtV
 dsimp only
 have hlen':(s.answers.map ansL).length<1000000000000:=by simpa using hlen
 have hbt:bt<w.heap.size:=h.tier.lt
 have hNb:Hid (∀ k,some k=g.av.ownBlock→k<w.heap.size∧k≠bt):=fun k hk=>⟨h.ans.lt hk.symm,fun e=>by have:=h.ans.mine k hk.symm;rw [e,h.tierO] at this;cases this⟩
 have HH:=hide h
 clear h hlen
 go_enter Tryz.func117,Tryz.ntmps117
 go_wp2
 generalize hW:World.alloc _ _=W0
 have T0:Turn nO w W0:=by rw [← hW];exact (Turn.alloc _ _ _).sA
 have hsz:W0.heap.size=w.heap.size+1+1:=by rw [← hW];simp
 have x0:∃ ty,W0.heap[w.heap.size]?=some (.cells #[.int .i64 (n:Int),.string k] ty (0,0)):=by rw [← hW];exact ⟨_,new2_0 _ _ _⟩
 obtain ⟨x0_0,x0_1⟩:=eC2 x0
 have x1:∃ ty,W0.heap[w.heap.size+1]?=some (.cells #[.int .i64 0,.int .i64 serial,.int .i64 tag,.int .i64 cid] ty (0,0)):=by rw [← hW];exact ⟨_,new2_1 _ _ _⟩
 obtain ⟨x1_0,x1_1,x1_2,x1_3⟩:=eC4 x1
 have HL:=hide ((uH HH).turn T0)
 have c16:W0.cell? ⟨bt,16,none⟩=some g.av:=cOf (uH HL).tier.block 16
 have f16:W0.frozen? ⟨bt,16,none⟩=false:=fOf (uH HL).tier.block 16
 have hN:=hide (uH HL).ans.row
 have c16a:∀ o,(W0.alloc o).cell? ⟨bt,16,none⟩=some g.av:=fun o=>(Turn.alloc nO W0 o).cell c16 id
 have hne0:bt≠w.heap.size+1+1:=by omega
 clear hW
 generalize hxs:(s.answers.map ansL).flatten=xs at *
 generalize hn:(s.answers.map ansL).length=m at *
 have hm1:m+1≤maxLen:=by unfold maxLen;omega
 have hm2:(m+1)*64≤140737488355328:=by omega
 have HS:=fun w' (T:Turn (fun k=>k=bt∨some k=g.av.ownBlock) W0 w')=>And.intro T (And.intro (T.cell x0_0 (fun h=>h.elim (fun e=>absurd e (by dsimp only;omega)) (fun e=>absurd (uH hNb _ e).1 (by dsimp only;omega)))) (And.intro (T.cell x0_1 (fun h=>h.elim (fun e=>absurd e (by dsimp only;omega)) (fun e=>absurd (uH hNb _ e).1 (by dsimp only;omega)))) (And.intro (T.cell x1_0 (fun h=>h.elim (fun e=>absurd e (by dsimp only;omega)) (fun e=>absurd (uH hNb _ e).1 (by dsimp only;omega)))) (And.intro (T.cell x1_1 (fun h=>h.elim (fun e=>absurd e (by dsimp only;omega)) (fun e=>absurd (uH hNb _ e).1 (by dsimp only;omega)))) (And.intro (T.cell x1_2 (fun h=>h.elim (fun e=>absurd e (by dsimp only;omega)) (fun e=>absurd (uH hNb _ e).1 (by dsimp only;omega)))) (T.cell x1_3 (fun h=>h.elim (fun e=>absurd e (by dsimp only;omega)) (fun e=>absurd (uH hNb _ e).1 (by dsimp only;omega)))))))))
 refine wp_region_noPanic ?_
 refine wp_region_held_drew (S:=fun w'=>Turn (fun k=>k=bt∨some k=g.av.ownBlock) W0 w'∧w'.cell? ⟨w.heap.size,0,none⟩=some (.int .i64 (n:Int))∧w'.cell? ⟨w.heap.size,1,none⟩=some (.string k)∧w'.cell? ⟨w.heap.size+1,0,none⟩=some (.int .i64 0)∧w'.cell? ⟨w.heap.size+1,1,none⟩=some (.int .i64 serial)∧w'.cell? ⟨w.heap.size+1,2,none⟩=some (.int .i64 tag)∧w'.cell? ⟨w.heap.size+1,3,none⟩=some (.int .i64 cid)) (by kernel_rfl) (HS _ ((Turn.refl _ _).sD)) (fun hHeld=>?_)
 refine tkE (i:=0) (v:=?_) rfl ?hy ?_
 case hy=>intro w hSw;(try dsimp only at hSw);go_simp;(try with_reducible rfl)
 (try go_frame)
 refine tkE (i:=1) (v:=?_) rfl ?hy ?_
 case hy=>intro w hSw;(try dsimp only at hSw);go_simp;(try with_reducible rfl)
 (try go_frame)
 refine tkE (i:=2) (v:=?_) rfl ?hy ?_
 case hy=>intro w hSw;(try dsimp only at hSw);go_simp;(try with_reducible rfl)
 (try go_frame)
 refine tkE (i:=3) (v:=?_) rfl ?hy ?_
 case hy=>intro w hSw;(try dsimp only at hSw);go_simp;(try with_reducible rfl)
 (try go_frame)
 refine tkE (i:=5) (v:=?_) rfl ?hy ?_
 case hy=>intro w hSw;(try dsimp only at hSw);go_simp;(try with_reducible rfl)
 (try go_frame)
 refine tkE (i:=6) (v:=?_) rfl ?hy ?_
 case hy=>intro w hSw;(try dsimp only at hSw);go_simp;(try with_reducible rfl)
 (try go_frame)
 refine tkE (i:=7) (v:=?_) rfl ?hy ?_
 case hy=>intro w hSw;(try dsimp only at hSw);go_simp;(try with_reducible rfl)
 (try go_frame)
 refine tkE (i:=8) (v:=?_) rfl ?hy ?_
 case hy=>intro w hSw;(try dsimp only at hSw);go_simp;(try with_reducible rfl)
 (try go_frame)
 refine tkE (i:=9) (v:=?_) rfl ?hy ?_
 case hy=>intro w hSw;(try dsimp only at hSw);go_simp;(try with_reducible rfl)
 (try go_frame)
 refine wpAnyH_ready (rs:=[4,10]) (by kernel_rfl) (by simp) ?_
 refine AllReadyH.cons rfl (fun K hK=>?_) (AllReadyH.cons rfl (fun K hK=>?_) AllReadyH.nil)
 ·go_simp
  refine hK.out _ _ (HS _ ((Turn.refl _ _).sD)) (fun hHeld=>?_)
  clear hK K
  refine wpAnyH_ready (rs:=[10]) (by kernel_rfl) (by simp) ?_
  refine AllReadyH.cons rfl (fun K hK=>?_) AllReadyH.nil
  go_simp
  refine hK.out _ _ (HS _ tAD) (fun hHeld=>?_)
  clear hK K
  refine wpAnyH_ready (rs:=[11]) (by kernel_rfl) (by simp) ?_
  refine AllReadyH.cons rfl (fun K hK=>?_) AllReadyH.nil
  refine step_append_lies _ (by rfl) _ _ _ (by rfl) 0 63 i0 _ 7 64 Tryz.underlying61 hi hz0 hz1 hz2 rfl (by omega) g.av m xs (by rfl) ((uH hN).alloc _).drew ⟨w.heap.size+1+1,0,none⟩ 1 1 [.int .i64 (n:Int),.int .i64 cid,.int .i64 2,.int .i64 0,.int .i64 0,.string ⟨#[]⟩,.int .i64 0] (by rfl) (by rfl) (World.news_of_block (cs:=#[.int .i64 (n:Int),.int .i64 cid,.int .i64 2,.int .i64 0,.int .i64 0,.string ⟨#[]⟩,.int .i64 0]) (t:=63) (fr:=(0,0)) (hsz ▸ heap_alloc_new W0 _)) (by simp [Value.oneCell']) (by omega) hm1 hm2 (by simp) (w.heap.size+1+1+1) (by simp [hsz]) ?_;intro gb cap w1 hown1 hgrow hat hlt;have q16:=far_cell hgrow c16 (fun e=>(uH hNb _ e).2 rfl);have q16f:=far_froz hgrow c16 f16 (fun e=>(uH hNb _ e).2 rfl)
  refine hK.out _ _ (HS _ (tADG hgrow)) (fun hHeld=>?_)
  clear hK K
  refine tkE (i:=12) (v:=?_) rfl ?hy ?_
  case hy=>intro w hSw;(try dsimp only at hSw);go_simp;(try with_reducible rfl)
  (try go_frame)
  refine tkE (i:=13) (v:=?_) rfl ?hy ?_
  case hy=>intro w hSw;(try dsimp only at hSw);go_simp;(try with_reducible rfl)
  (try go_frame)
  refine wpAnyH_ready (rs:=[14]) (by kernel_rfl) (by simp) ?_
  refine AllReadyH.cons rfl (fun K hK=>?_) AllReadyH.nil
  go_simp
  refine hK.out _ _ (HS _ (tADGS hgrow)) (fun hHeld=>?_)
  clear hK K
  refine wpAnyH_done (by kernel_rfl) ?_ _
  refine NoPanic.normal ?_
  go_split_ands
  clear HS
  go_wp2
  subst hn
  subst hxs
  obtain ⟨L,S⟩:=((uH HL).turn ((Turn.alloc nO W0 _).sD)).gave (m:=⟨n,cid,2,0,0,none8,0⟩) hown1 hgrow (hat.imp id (fun e=>by rw [e];simp [hsz])) hlt
  exact bodyPost_ret (v:= .tuple #[]) (by simp [results,Tryz.results117,go_sem]) rfl ⟨rfl,_,_,L,((Step.of_turn T0).trans (Step.of_turn ((Turn.alloc nO W0 _).sD))).trans S,⟨rfl,rfl,rfl,rfl,rfl,rfl⟩⟩
 ·go_simp
  refine hK.out _ _ (HS _ tAD) (fun hHeld=>?_)
  clear hK K
  refine wpAnyH_ready (rs:=[4]) (by kernel_rfl) (by simp) ?_
  refine AllReadyH.cons rfl (fun K hK=>?_) AllReadyH.nil
  go_simp
  refine hK.out _ _ (HS _ tAD) (fun hHeld=>?_)
  clear hK K
  refine wpAnyH_ready (rs:=[11]) (by kernel_rfl) (by simp) ?_
  refine AllReadyH.cons rfl (fun K hK=>?_) AllReadyH.nil
  refine step_append_lies _ (by rfl) _ _ _ (by rfl) 0 63 i0 _ 7 64 Tryz.underlying61 hi hz0 hz1 hz2 rfl (by omega) g.av m xs (by rfl) ((uH hN).alloc _).drew ⟨w.heap.size+1+1,0,none⟩ 1 1 [.int .i64 (n:Int),.int .i64 cid,.int .i64 2,.int .i64 0,.int .i64 0,.string ⟨#[]⟩,.int .i64 0] (by rfl) (by rfl) (World.news_of_block (cs:=#[.int .i64 (n:Int),.int .i64 cid,.int .i64 2,.int .i64 0,.int .i64 0,.string ⟨#[]⟩,.int .i64 0]) (t:=63) (fr:=(0,0)) (hsz ▸ heap_alloc_new W0 _)) (by simp [Value.oneCell']) (by omega) hm1 hm2 (by simp) (w.heap.size+1+1+1) (by simp [hsz]) ?_;intro gb cap w1 hown1 hgrow hat hlt;have q16:=far_cell hgrow c16 (fun e=>(uH hNb _ e).2 rfl);have q16f:=far_froz hgrow c16 f16 (fun e=>(uH hNb _ e).2 rfl)
  refine hK.out _ _ (HS _ (tADG hgrow)) (fun hHeld=>?_)
  clear hK K
  refine tkE (i:=12) (v:=?_) rfl ?hy ?_
  case hy=>intro w hSw;(try dsimp only at hSw);go_simp;(try with_reducible rfl)
  (try go_frame)
  refine tkE (i:=13) (v:=?_) rfl ?hy ?_
  case hy=>intro w hSw;(try dsimp only at hSw);go_simp;(try with_reducible rfl)
  (try go_frame)
  refine wpAnyH_ready (rs:=[14]) (by kernel_rfl) (by simp) ?_
  refine AllReadyH.cons rfl (fun K hK=>?_) AllReadyH.nil
  go_simp
  refine hK.out _ _ (HS _ (tADGS hgrow)) (fun hHeld=>?_)
  clear hK K
  refine wpAnyH_done (by kernel_rfl) ?_ _
  refine NoPanic.normal ?_
  go_split_ands
  clear HS
  go_wp2
  subst hn
  subst hxs
  obtain ⟨L,S⟩:=((uH HL).turn ((Turn.alloc nO W0 _).sD)).gave (m:=⟨n,cid,2,0,0,none8,0⟩) hown1 hgrow (hat.imp id (fun e=>by rw [e];simp [hsz])) hlt
  exact bodyPost_ret (v:= .tuple #[]) (by simp [results,Tryz.results117,go_sem]) rfl ⟨rfl,_,_,L,((Step.of_turn T0).trans (Step.of_turn ((Turn.alloc nO W0 _).sD))).trans S,⟨rfl,rfl,rfl,rfl,rfl,rfl⟩⟩
theorem refuse_child (own:Own) (τ bt:Nat) (g:Gh) (s:PS) (n:Nat) (k:ByteArray) (x:Wt) (w:World) (h:Lies own τ w bt g s) (hlen:s.net.length<1000000000000) (hc:x.child≠0) :
    Calls Tryz.prog 117 #[.pointer (some ⟨bt,0,none⟩),placeV (n,k),wtV x] w fun r w'=>r= .returned (.tuple #[])∧∃ own' g',Lies own' τ w' bt g' { s with net:=s.net ++ [⟨4,n,x.child,k,x.serial,0,0,0,none8⟩] }∧Step τ own own' w w'∧g.Like g':=by
 obtain ⟨child,serial,tag,cid⟩:=x
 dsimp only at hc ⊢
 unfold placeV wtV
 dsimp only
 have HH:=hide h
 clear h
 have HN:=hide hlen
 clear hlen
 go_enter Tryz.func117,Tryz.ntmps117
 go_wp2_with fail
 generalize hW:World.alloc _ _=W0
 have T0:Turn nO w W0:=by rw [← hW];exact (Turn.alloc _ _ _).sA
 refine (send_any own τ bt g s ⟨4,n,child,k,serial,0,0,0,none8⟩ W0 ((uH HH).turn T0) (uH HN)).mono ?_
 rintro e w1 ⟨rfl,own',g',L,S,GL⟩
 clear hW
 have HL:=hide (And.intro L (And.intro ((Step.of_turn T0).trans S) GL))
 clear L S T0 GL
 go_wp2
 go_end0
 exact ⟨rfl,own',g',(uH HL).1,(uH HL).2.1,(uH HL).2.2⟩
theorem refuse_any (own:Own) (τ bt:Nat) (g:Gh) (s:PS) (n:Nat) (k:ByteArray) (x:Wt) (w:World) (h:Lies own τ w bt g s) (hl1:s.net.length<1000000000000) (hl2:s.answers.length<1000000000000) :
    Calls Tryz.prog 117 #[.pointer (some ⟨bt,0,none⟩),placeV (n,k),wtV x] w fun r w'=>r= .returned (.tuple #[])∧∃ own' g',Lies own' τ w' bt g' (s.refuse n k x)∧Step τ own own' w w'∧g.Like g':=by
 by_cases hc:x.child=0
 ·rw [PS.refuse,if_pos hc];exact refuse_client own τ bt g s n k x w h hl2 hc
 ·rw [PS.refuse,if_neg hc];exact refuse_child own τ bt g s n k x w h hl1 hc
def PS.tell (s:PS) (n:Nat) (x:Wt) (e:See):PS :=
  if x.child=0 then { s with answers:=s.answers ++ [⟨n,x.id,1,e.ver,e.pres,e.val,e.age⟩] }
  else if x.tag=e.ver then { s with net:=s.net ++ [⟨3,n,x.child,e.key,x.serial,e.ver,e.age,0,none8⟩] }
  else { s with net:=s.net ++ [⟨2,n,x.child,e.key,x.serial,e.ver,e.age,e.pres,e.val⟩] }
theorem tell_client (own:Own) (τ bt:Nat) (g:Gh) (s:PS) (n:Nat) (x:Wt) (e:See) (w:World) (h:Lies own τ w bt g s) (hlen:s.answers.length<1000000000000) (hc:x.child=0) :
    Calls Tryz.prog 105 #[.pointer (some ⟨bt,0,none⟩),.int .i64 (n:Int),wtV x,seeV e] w fun r w'=>r= .returned (.tuple #[])∧∃ own' g',Lies own' τ w' bt g' { s with answers:=s.answers ++ [⟨n,x.id,1,e.ver,e.pres,e.val,e.age⟩] }∧Step τ own own' w w'∧g.Like g':=by
 obtain ⟨i0,hi,hz0,hz1,hz2⟩:=info_parts infoAns
 obtain ⟨child,serial,tag,cid⟩:=x
 obtain ⟨key,ver,pres,val,age⟩:=e
 dsimp only at hc ⊢
 subst hc
 unfold wtV seeV
 dsimp only
 have hlen':(s.answers.map ansL).length<1000000000000:=by simpa using hlen
 have hbt:bt<w.heap.size:=h.tier.lt
 have hNb:Hid (∀ k,some k=g.av.ownBlock→k<w.heap.size∧k≠bt):=fun k hk=>⟨h.ans.lt hk.symm,fun e=>by have:=h.ans.mine k hk.symm;rw [e,h.tierO] at this;cases this⟩
 have HH:=hide h
 clear h hlen
 go_enter Tryz.func105,Tryz.ntmps105
 go_wp2
 generalize hW:World.alloc _ _=W0
 have T0:Turn nO w W0:=by rw [← hW];exact (Turn.alloc _ _ _).sA
 have hsz:W0.heap.size=w.heap.size+1+1:=by rw [← hW];simp
 have x0:∃ ty,W0.heap[w.heap.size]?=some (.cells #[.int .i64 0,.int .i64 serial,.int .i64 tag,.int .i64 cid] ty (0,0)):=by rw [← hW];exact ⟨_,new2_0 _ _ _⟩
 obtain ⟨x0_0,x0_1,x0_2,x0_3⟩:=eC4 x0
 have x1:∃ ty,W0.heap[w.heap.size+1]?=some (.cells #[.string key,.int .i64 ver,.int .i64 pres,.string val,.int .i64 age] ty (0,0)):=by rw [← hW];exact ⟨_,new2_1 _ _ _⟩
 obtain ⟨x1_0,x1_1,x1_2,x1_3,x1_4⟩:=eC5 x1
 have HL:=hide ((uH HH).turn T0)
 have c16:W0.cell? ⟨bt,16,none⟩=some g.av:=cOf (uH HL).tier.block 16
 have f16:W0.frozen? ⟨bt,16,none⟩=false:=fOf (uH HL).tier.block 16
 have hN:=hide (uH HL).ans.row
 have c16a:∀ o,(W0.alloc o).cell? ⟨bt,16,none⟩=some g.av:=fun o=>(Turn.alloc nO W0 o).cell c16 id
 have hne0:bt≠w.heap.size+1+1:=by omega
 clear hW
 generalize hxs:(s.answers.map ansL).flatten=xs at *
 generalize hn:(s.answers.map ansL).length=m at *
 have hm1:m+1≤maxLen:=by unfold maxLen;omega
 have hm2:(m+1)*64≤140737488355328:=by omega
 have HS:=fun w' (T:Turn (fun k=>k=bt∨some k=g.av.ownBlock) W0 w')=>And.intro T (And.intro (T.cell x0_0 (fun h=>h.elim (fun e=>absurd e (by dsimp only;omega)) (fun e=>absurd (uH hNb _ e).1 (by dsimp only;omega)))) (And.intro (T.cell x0_1 (fun h=>h.elim (fun e=>absurd e (by dsimp only;omega)) (fun e=>absurd (uH hNb _ e).1 (by dsimp only;omega)))) (And.intro (T.cell x0_2 (fun h=>h.elim (fun e=>absurd e (by dsimp only;omega)) (fun e=>absurd (uH hNb _ e).1 (by dsimp only;omega)))) (And.intro (T.cell x0_3 (fun h=>h.elim (fun e=>absurd e (by dsimp only;omega)) (fun e=>absurd (uH hNb _ e).1 (by dsimp only;omega)))) (And.intro (T.cell x1_0 (fun h=>h.elim (fun e=>absurd e (by dsimp only;omega)) (fun e=>absurd (uH hNb _ e).1 (by dsimp only;omega)))) (And.intro (T.cell x1_1 (fun h=>h.elim (fun e=>absurd e (by dsimp only;omega)) (fun e=>absurd (uH hNb _ e).1 (by dsimp only;omega)))) (And.intro (T.cell x1_2 (fun h=>h.elim (fun e=>absurd e (by dsimp only;omega)) (fun e=>absurd (uH hNb _ e).1 (by dsimp only;omega)))) (And.intro (T.cell x1_3 (fun h=>h.elim (fun e=>absurd e (by dsimp only;omega)) (fun e=>absurd (uH hNb _ e).1 (by dsimp only;omega)))) (T.cell x1_4 (fun h=>h.elim (fun e=>absurd e (by dsimp only;omega)) (fun e=>absurd (uH hNb _ e).1 (by dsimp only;omega))))))))))))
 refine wp_region_noPanic ?_
 refine wp_region_held_drew (S:=fun w'=>Turn (fun k=>k=bt∨some k=g.av.ownBlock) W0 w'∧w'.cell? ⟨w.heap.size,0,none⟩=some (.int .i64 0)∧w'.cell? ⟨w.heap.size,1,none⟩=some (.int .i64 serial)∧w'.cell? ⟨w.heap.size,2,none⟩=some (.int .i64 tag)∧w'.cell? ⟨w.heap.size,3,none⟩=some (.int .i64 cid)∧w'.cell? ⟨w.heap.size+1,0,none⟩=some (.string key)∧w'.cell? ⟨w.heap.size+1,1,none⟩=some (.int .i64 ver)∧w'.cell? ⟨w.heap.size+1,2,none⟩=some (.int .i64 pres)∧w'.cell? ⟨w.heap.size+1,3,none⟩=some (.string val)∧w'.cell? ⟨w.heap.size+1,4,none⟩=some (.int .i64 age)) (by kernel_rfl) (HS _ ((Turn.refl _ _).sD)) (fun hHeld=>?_)
 refine tkE (i:=0) (v:=?_) rfl ?hy ?_
 case hy=>intro w hSw;(try dsimp only at hSw);go_simp;(try with_reducible rfl)
 (try go_frame)
 refine tkE (i:=1) (v:=?_) rfl ?hy ?_
 case hy=>intro w hSw;(try dsimp only at hSw);go_simp;(try with_reducible rfl)
 (try go_frame)
 refine tkE (i:=2) (v:=?_) rfl ?hy ?_
 case hy=>intro w hSw;(try dsimp only at hSw);go_simp;(try with_reducible rfl)
 (try go_frame)
 refine tkE (i:=3) (v:=?_) rfl ?hy ?_
 case hy=>intro w hSw;(try dsimp only at hSw);go_simp;(try with_reducible rfl)
 (try go_frame)
 refine tkE (i:=5) (v:=?_) rfl ?hy ?_
 case hy=>intro w hSw;(try dsimp only at hSw);go_simp;(try with_reducible rfl)
 (try go_frame)
 refine tkE (i:=6) (v:=?_) rfl ?hy ?_
 case hy=>intro w hSw;(try dsimp only at hSw);go_simp;(try with_reducible rfl)
 (try go_frame)
 refine tkE (i:=7) (v:=?_) rfl ?hy ?_
 case hy=>intro w hSw;(try dsimp only at hSw);go_simp;(try with_reducible rfl)
 (try go_frame)
 refine tkE (i:=8) (v:=?_) rfl ?hy ?_
 case hy=>intro w hSw;(try dsimp only at hSw);go_simp;(try with_reducible rfl)
 (try go_frame)
 refine tkE (i:=9) (v:=?_) rfl ?hy ?_
 case hy=>intro w hSw;(try dsimp only at hSw);go_simp;(try with_reducible rfl)
 (try go_frame)
 refine tkE (i:=10) (v:=?_) rfl ?hy ?_
 case hy=>intro w hSw;(try dsimp only at hSw);go_simp;(try with_reducible rfl)
 (try go_frame)
 refine tkE (i:=11) (v:=?_) rfl ?hy ?_
 case hy=>intro w hSw;(try dsimp only at hSw);go_simp;(try with_reducible rfl)
 (try go_frame)
 refine tkE (i:=12) (v:=?_) rfl ?hy ?_
 case hy=>intro w hSw;(try dsimp only at hSw);go_simp;(try with_reducible rfl)
 (try go_frame)
 refine tkE (i:=13) (v:=?_) rfl ?hy ?_
 case hy=>intro w hSw;(try dsimp only at hSw);go_simp;(try with_reducible rfl)
 (try go_frame)
 refine tkE (i:=14) (v:=?_) rfl ?hy ?_
 case hy=>intro w hSw;(try dsimp only at hSw);go_simp;(try with_reducible rfl)
 (try go_frame)
 refine tkE (i:=15) (v:=?_) rfl ?hy ?_
 case hy=>intro w hSw;(try dsimp only at hSw);go_simp;(try with_reducible rfl)
 (try go_frame)
 refine tkE (i:=16) (v:=?_) rfl ?hy ?_
 case hy=>intro w hSw;(try dsimp only at hSw);go_simp;(try with_reducible rfl)
 (try go_frame)
 refine wpAnyH_ready (rs:=[4,17]) (by kernel_rfl) (by simp) ?_
 refine AllReadyH.cons rfl (fun K hK=>?_) (AllReadyH.cons rfl (fun K hK=>?_) AllReadyH.nil)
 ·go_simp
  refine hK.out _ _ (HS _ ((Turn.refl _ _).sD)) (fun hHeld=>?_)
  clear hK K
  refine wpAnyH_ready (rs:=[17]) (by kernel_rfl) (by simp) ?_
  refine AllReadyH.cons rfl (fun K hK=>?_) AllReadyH.nil
  go_simp
  refine hK.out _ _ (HS _ tAD) (fun hHeld=>?_)
  clear hK K
  refine wpAnyH_ready (rs:=[18]) (by kernel_rfl) (by simp) ?_
  refine AllReadyH.cons rfl (fun K hK=>?_) AllReadyH.nil
  refine step_append_lies _ (by rfl) _ _ _ (by rfl) 0 63 i0 _ 7 64 Tryz.underlying61 hi hz0 hz1 hz2 rfl (by omega) g.av m xs (by rfl) ((uH hN).alloc _).drew ⟨w.heap.size+1+1,0,none⟩ 1 1 [.int .i64 (n:Int),.int .i64 cid,.int .i64 1,.int .i64 ver,.int .i64 pres,.string val,.int .i64 age] (by rfl) (by rfl) (World.news_of_block (cs:=#[.int .i64 (n:Int),.int .i64 cid,.int .i64 1,.int .i64 ver,.int .i64 pres,.string val,.int .i64 age]) (t:=63) (fr:=(0,0)) (hsz ▸ heap_alloc_new W0 _)) (by simp [Value.oneCell']) (by omega) hm1 hm2 (by simp) (w.heap.size+1+1+1) (by simp [hsz]) ?_;intro gb cap w1 hown1 hgrow hat hlt;have q16:=far_cell hgrow c16 (fun e=>(uH hNb _ e).2 rfl);have q16f:=far_froz hgrow c16 f16 (fun e=>(uH hNb _ e).2 rfl)
  refine hK.out _ _ (HS _ (tADG hgrow)) (fun hHeld=>?_)
  clear hK K
  refine tkE (i:=19) (v:=?_) rfl ?hy ?_
  case hy=>intro w hSw;(try dsimp only at hSw);go_simp;(try with_reducible rfl)
  (try go_frame)
  refine tkE (i:=20) (v:=?_) rfl ?hy ?_
  case hy=>intro w hSw;(try dsimp only at hSw);go_simp;(try with_reducible rfl)
  (try go_frame)
  refine wpAnyH_ready (rs:=[21]) (by kernel_rfl) (by simp) ?_
  refine AllReadyH.cons rfl (fun K hK=>?_) AllReadyH.nil
  go_simp
  refine hK.out _ _ (HS _ (tADGS hgrow)) (fun hHeld=>?_)
  clear hK K
  refine wpAnyH_done (by kernel_rfl) ?_ _
  refine NoPanic.normal ?_
  go_split_ands
  clear HS
  go_wp2
  subst hn
  subst hxs
  obtain ⟨L,S⟩:=((uH HL).turn ((Turn.alloc nO W0 _).sD)).gave (m:=⟨n,cid,1,ver,pres,val,age⟩) hown1 hgrow (hat.imp id (fun e=>by rw [e];simp [hsz])) hlt
  exact bodyPost_ret (v:= .tuple #[]) (by simp [results,Tryz.results105,go_sem]) rfl ⟨rfl,_,_,L,((Step.of_turn T0).trans (Step.of_turn ((Turn.alloc nO W0 _).sD))).trans S,⟨rfl,rfl,rfl,rfl,rfl,rfl⟩⟩
 ·go_simp
  refine hK.out _ _ (HS _ tAD) (fun hHeld=>?_)
  clear hK K
  refine wpAnyH_ready (rs:=[4]) (by kernel_rfl) (by simp) ?_
  refine AllReadyH.cons rfl (fun K hK=>?_) AllReadyH.nil
  go_simp
  refine hK.out _ _ (HS _ tAD) (fun hHeld=>?_)
  clear hK K
  refine wpAnyH_ready (rs:=[18]) (by kernel_rfl) (by simp) ?_
  refine AllReadyH.cons rfl (fun K hK=>?_) AllReadyH.nil
  refine step_append_lies _ (by rfl) _ _ _ (by rfl) 0 63 i0 _ 7 64 Tryz.underlying61 hi hz0 hz1 hz2 rfl (by omega) g.av m xs (by rfl) ((uH hN).alloc _).drew ⟨w.heap.size+1+1,0,none⟩ 1 1 [.int .i64 (n:Int),.int .i64 cid,.int .i64 1,.int .i64 ver,.int .i64 pres,.string val,.int .i64 age] (by rfl) (by rfl) (World.news_of_block (cs:=#[.int .i64 (n:Int),.int .i64 cid,.int .i64 1,.int .i64 ver,.int .i64 pres,.string val,.int .i64 age]) (t:=63) (fr:=(0,0)) (hsz ▸ heap_alloc_new W0 _)) (by simp [Value.oneCell']) (by omega) hm1 hm2 (by simp) (w.heap.size+1+1+1) (by simp [hsz]) ?_;intro gb cap w1 hown1 hgrow hat hlt;have q16:=far_cell hgrow c16 (fun e=>(uH hNb _ e).2 rfl);have q16f:=far_froz hgrow c16 f16 (fun e=>(uH hNb _ e).2 rfl)
  refine hK.out _ _ (HS _ (tADG hgrow)) (fun hHeld=>?_)
  clear hK K
  refine tkE (i:=19) (v:=?_) rfl ?hy ?_
  case hy=>intro w hSw;(try dsimp only at hSw);go_simp;(try with_reducible rfl)
  (try go_frame)
  refine tkE (i:=20) (v:=?_) rfl ?hy ?_
  case hy=>intro w hSw;(try dsimp only at hSw);go_simp;(try with_reducible rfl)
  (try go_frame)
  refine wpAnyH_ready (rs:=[21]) (by kernel_rfl) (by simp) ?_
  refine AllReadyH.cons rfl (fun K hK=>?_) AllReadyH.nil
  go_simp
  refine hK.out _ _ (HS _ (tADGS hgrow)) (fun hHeld=>?_)
  clear hK K
  refine wpAnyH_done (by kernel_rfl) ?_ _
  refine NoPanic.normal ?_
  go_split_ands
  clear HS
  go_wp2
  subst hn
  subst hxs
  obtain ⟨L,S⟩:=((uH HL).turn ((Turn.alloc nO W0 _).sD)).gave (m:=⟨n,cid,1,ver,pres,val,age⟩) hown1 hgrow (hat.imp id (fun e=>by rw [e];simp [hsz])) hlt
  exact bodyPost_ret (v:= .tuple #[]) (by simp [results,Tryz.results105,go_sem]) rfl ⟨rfl,_,_,L,((Step.of_turn T0).trans (Step.of_turn ((Turn.alloc nO W0 _).sD))).trans S,⟨rfl,rfl,rfl,rfl,rfl,rfl⟩⟩
theorem tell_child (own:Own) (τ bt:Nat) (g:Gh) (s:PS) (n:Nat) (x:Wt) (e:See) (w:World) (h:Lies own τ w bt g s) (hlen:s.net.length<1000000000000) (hc:x.child≠0) :
    Calls Tryz.prog 105 #[.pointer (some ⟨bt,0,none⟩),.int .i64 (n:Int),wtV x,seeV e] w fun r w'=>r= .returned (.tuple #[])∧∃ own' g',Lies own' τ w' bt g' (s.tell n x e)∧Step τ own own' w w'∧g.Like g':=by
 obtain ⟨child,serial,tag,cid⟩:=x
 obtain ⟨key,ver,pres,val,age⟩:=e
 unfold PS.tell
 dsimp only at hc ⊢
 rw [if_neg hc]
 unfold wtV seeV
 dsimp only
 have HH:=hide h
 clear h
 have HN:=hide hlen
 clear hlen
 by_cases ht:tag=ver
 ·rw [if_pos ht]
  subst ht
  go_enter Tryz.func105,Tryz.ntmps105
  go_wp2_with fail
  generalize hW:World.alloc _ _=W0
  have T0:Turn nO w W0:=by rw [← hW];exact (Turn.alloc _ _ _).sA.sA
  refine (send_any own τ bt g s ⟨3,n,child,key,serial,tag,age,0,none8⟩ W0 ((uH HH).turn T0) (uH HN)).mono ?_
  rintro e w1 ⟨rfl,own',g',L,S,GL⟩
  clear hW
  have HL:=hide (And.intro L (And.intro ((Step.of_turn T0).trans S) GL))
  clear L S T0 GL
  go_wp2
  go_end0
  exact ⟨rfl,own',g',(uH HL).1,(uH HL).2.1,(uH HL).2.2⟩
 ·rw [if_neg ht]
  go_enter Tryz.func105,Tryz.ntmps105
  go_wp2_with fail
  generalize hW:World.alloc _ _=W0
  have T0:Turn nO w W0:=by rw [← hW];exact (Turn.alloc _ _ _).sA.sA
  refine (send_any own τ bt g s ⟨2,n,child,key,serial,ver,age,pres,val⟩ W0 ((uH HH).turn T0) (uH HN)).mono ?_
  rintro e w1 ⟨rfl,own',g',L,S,GL⟩
  clear hW
  have HL:=hide (And.intro L (And.intro ((Step.of_turn T0).trans S) GL))
  clear L S T0 GL
  go_wp2
  go_end0
  exact ⟨rfl,own',g',(uH HL).1,(uH HL).2.1,(uH HL).2.2⟩
theorem tell_any (own:Own) (τ bt:Nat) (g:Gh) (s:PS) (n:Nat) (x:Wt) (e:See) (w:World) (h:Lies own τ w bt g s) (hl1:s.net.length<1000000000000) (hl2:s.answers.length<1000000000000) :
    Calls Tryz.prog 105 #[.pointer (some ⟨bt,0,none⟩),.int .i64 (n:Int),wtV x,seeV e] w fun r w'=>r= .returned (.tuple #[])∧∃ own' g',Lies own' τ w' bt g' (s.tell n x e)∧Step τ own own' w w'∧g.Like g':=by
 by_cases hc:x.child=0
 ·rw [PS.tell,if_pos hc];exact tell_client own τ bt g s n x e w h hl2 hc
 ·exact tell_child own τ bt g s n x e w h hl1 hc
def noFt:Ft:=⟨0,0,[],.slice none 0 0⟩
theorem zeroFt (w:World):(zeroValue 154).run Tryz.prog w= .ok (ftV noFt) w:=by kernel_rfl
theorem ft_look {w:World} {bq:Nat} {l:List ((Nat × ByteArray) × Ft)} (hm:MapIs Tryz.prog 124 w bq (rawL placeV ftV l)) {n:Nat} {k:ByteArray} (h1:n<1000) (h2:k.size≤100) :
    (Instr.lookup 74 (.map (some bq)) (.agg #[.int .i64 (n:Int),.string k]) true).run Tryz.prog w= .ok (.tuple #[ftV ((aget l (n,k)).getD noFt),.bool (aget l (n,k)).isSome]) w:=by
 obtain ⟨kl,hkey⟩:=placeKey (p:=(n,k)) h1 h2
 have:=map_look hm placeKeyed Tryz.underlying74 placeV_inj hkey (zeroFt w) true
 cases hg:aget l (n,k) <;> rw [hg] at this <;> simpa [placeV] using this
theorem ft_look1 {w:World} {bq:Nat} {l:List ((Nat × ByteArray) × Ft)} (hm:MapIs Tryz.prog 124 w bq (rawL placeV ftV l)) {n:Nat} {k:ByteArray} {f:Ft} (hf:aget l (n,k)=some f) (h1:n<1000) (h2:k.size≤100) :
    (Instr.lookup 74 (.map (some bq)) (.agg #[.int .i64 (n:Int),.string k]) false).run Tryz.prog w= .ok (ftV f) w:=by
 obtain ⟨kl,hkey⟩:=placeKey (p:=(n,k)) h1 h2
 have:=map_look hm placeKeyed Tryz.underlying74 placeV_inj hkey (zeroFt w) false
 rw [hf] at this
 simpa [placeV] using this
theorem field_ft (a b:Int) (fa:Option Addr) (fn fc:Nat) (w:World):(Instr.field 154 (.agg #[.int .i64 a,.int .i64 b,.slice fa fn fc]) 2).run Tryz.prog w= .ok (.slice fa fn fc) w:=by kernel_rfl
theorem end_any (own:Own) (τ bt:Nat) (g:Gh) (s:PS) (n:Nat) (k:ByteArray) (f:Ft) (w:World) (h:Lies own τ w bt g s) (hap:s.fts.Pairwise (fun p q=>p.2.serial≠q.2.serial)) (hpos:∀ p∈s.fts,0<p.2.serial) (hf:aget s.fts (n,k)=some f) (h1:n<1000) (h2:k.size≤100) :
    Calls Tryz.prog 116 #[.pointer (some ⟨bt,0,none⟩),placeV (n,k)] w fun r w'=>r= .returned f.v∧∃ own',Lies own' τ w' bt g { s with fts:=adel s.fts (n,k) }∧Step τ own own' w w'∧Loose own' w' 146 4 f.v (f.l.map wtL):=by
 obtain ⟨fa,fc,hfv⟩:=row_form (h.waits _ (aget_mem hf)).row
 obtain ⟨fser,fsent,fl,fv⟩:=f
 dsimp only at hfv ⊢
 generalize (fl.map wtL).length=fn at hfv
 subst hfv
 have HH:=hide h
 have HF:=hide (And.intro hap (And.intro hpos hf))
 have hbt:bt<w.heap.size:=h.tier.lt
 have hbq:g.bq<w.heap.size:=h.fts.lt
 have hne:Hid (g.bq≠bt):=fun e=>by have:=h.ftsO;rw [e,h.tierO] at this;cases this
 have HK:Hid (∀ w':World,w'.heap[g.bq]?=w.heap[g.bq]?→(Instr.lookup 74 (.map (some g.bq)) (.agg #[.int .i64 (n:Int),.string k]) false).run Tryz.prog w'= .ok (.agg #[.int .i64 fser,.int .i64 fsent,(.slice fa fn fc)]) w'):=fun w' e=>ft_look1 (h.fts.heap e) hf h1 h2
 have d13:w.cell? ⟨bt,13,none⟩=some (.map (some g.bq)):=cOf h.tier.block 13
 unfold placeV
 dsimp only
 have hfield:=field_ft fser fsent fa fn fc
 clear h hap hpos hf
 go_enter Tryz.func116,Tryz.ntmps116
 go_wp2
 generalize hW:World.alloc _ _=W0
 have T0:Turn nO w W0:=by rw [← hW];exact (Turn.alloc _ _ _)
 have hsz:W0.heap.size=w.heap.size+1:=by rw [← hW];simp
 have x0:∃ ty,W0.heap[w.heap.size]?=some (.cells #[.int .i64 (n:Int),.string k] ty (0,0)):=by rw [← hW];exact ⟨_,new1_0 _ _⟩
 obtain ⟨x0_0,x0_1⟩:=eC2 x0
 have c13:=T0.cell d13 id
 have HL:=hide ((uH HH).turn T0)
 clear hW d13
 have HS:=fun w' (T:Turn nO W0 w')=>And.intro T (And.intro (T.cell c13 id) (And.intro (T.cell x0_0 id) (And.intro (T.cell x0_1 id) ((show (Instr.lookup 74 (.map (some g.bq)) (.agg #[.int .i64 (n:Int),.string k]) false).run Tryz.prog w'= .ok (.agg #[.int .i64 fser,.int .i64 fsent,(.slice fa fn fc)]) w' from (uH HK _ ((T.block _ (by omega) id).trans (T0.block _ hbq id))))))))
 go_region_held3 (fun w'=>Turn nO W0 w'∧w'.cell? ⟨bt,13,none⟩=some (.map (some g.bq))∧w'.cell? ⟨w.heap.size,0,none⟩=some (.int .i64 (n:Int))∧w'.cell? ⟨w.heap.size,1,none⟩=some (.string k)∧((Instr.lookup 74 (.map (some g.bq)) (.agg #[.int .i64 (n:Int),.string k]) false).run Tryz.prog w'= .ok (.agg #[.int .i64 fser,.int .i64 fsent,(.slice fa fn fc)]) w')) ((go_split_ands;apply HS;all_goals (repeat (first|(with_reducible first|assumption|exact Turn.refl _ _|apply Turn.sA|apply Turn.sD|refine tN ?_ (by assumption))|((with_reducible refine Turn.sS ?_ ?_);rotate_left;· first|exact Or.inr rfl|exact Or.inr (Or.inl rfl)|exact Or.inl (by simp <;> omega))|(with_reducible refine tG ?_ (by assumption))|(with_reducible first|apply There.drew|apply There.set|refine hNo ?_ (by assumption))|assumption)))) (fail)
 go_split_ands
 clear HS
 go_wp2
 obtain ⟨kl,hkey⟩:=placeKey (p:=(n,k)) h1 h2
 have hL2:Lies own τ W0.drew.drew bt g s:=(uH HL).turn (Turn.drew _ _).sD
 obtain ⟨w1,hrun,hm1,ht1⟩:=map_del hL2.fts placeKeyed Tryz.underlying74 placeV_inj hkey 0
 have hgrow:=ht1.grown
 have HE:=hide (hL2.ended (uH HF).2.2 (uH HF).1 (uH HF).2.1 hm1 ht1)
 have hbt0:Hid (∀ k',some k'=some g.bq→k'<w.heap.size):=fun k' e=>by cases e;exact hbq
 simp only [placeV] at hrun
 clear hm1 ht1 hL2
 have HS:=fun w' (T:Turn (fun k'=>k'=0∧False∨some k'=some g.bq) W0 w')=>And.intro T (And.intro (T.cell x0_0 (fun h=>h.elim (fun e=>e.2) (fun e=>absurd (uH hbt0 _ e) (by dsimp only;omega)))) (And.intro (T.cell x0_1 (fun h=>h.elim (fun e=>e.2) (fun e=>absurd (uH hbt0 _ e) (by dsimp only;omega)))) ((show w'.cell? ⟨bt,13,none⟩=some (.map (some g.bq)) from (T.cell c13 (fun h=>h.elim (fun e=>e.2) (fun e=>uH hne (Option.some.inj e).symm)))))))
 go_region_held3 (fun w'=>Turn (fun k'=>k'=0∧False∨some k'=some g.bq) W0 w'∧w'.cell? ⟨w.heap.size,0,none⟩=some (.int .i64 (n:Int))∧w'.cell? ⟨w.heap.size,1,none⟩=some (.string k)∧(w'.cell? ⟨bt,13,none⟩=some (.map (some g.bq)))) ((go_split_ands;apply HS;all_goals (repeat (first|(with_reducible first|assumption|exact Turn.refl _ _|apply Turn.sA|apply Turn.sD|refine tN ?_ (by assumption))|((with_reducible refine Turn.sS ?_ ?_);rotate_left;· first|exact Or.inr rfl|exact Or.inr (Or.inl rfl)|exact Or.inl (by simp <;> omega))|(with_reducible refine tG ?_ (by assumption))|(with_reducible first|apply There.drew|apply There.set|refine hNo ?_ (by assumption))|assumption)))) (fail)
 go_split_ands
 clear HS
 go_wp2
 obtain ⟨own',L,S,R⟩:=uH HE
 go_ret
 exact ⟨rfl,own',L,(Step.of_turn (T0.sD.sD)).trans S,R⟩
def PS.refuseL (s:PS) (n:Nat) (k:ByteArray) (l:List Wt):PS:=l.foldl (fun s x=>s.refuse n k x) s
theorem PS.refuse_net (s:PS) (n:Nat) (k:ByteArray) (x:Wt):(s.refuse n k x).net.length≤s.net.length+1∧(s.refuse n k x).answers.length≤s.answers.length+1:=by
  unfold PS.refuse;split <;> simp
theorem PS.refuseL_net (n:Nat) (k:ByteArray):∀ (l:List Wt) (s:PS),(s.refuseL n k l).net.length≤s.net.length+l.length∧(s.refuseL n k l).answers.length≤s.answers.length+l.length
  | [],s=>by simp [PS.refuseL]
  | x :: r,s=>by
    have h1:=PS.refuse_net s n k x
    have h2:=PS.refuseL_net n k r (s.refuse n k x)
    simp only [PS.refuseL,List.foldl_cons,List.length_cons] at *
    omega
theorem PS.refuseL_snoc (s:PS) (n:Nat) (k:ByteArray) (l:List Wt) (i:Nat) (x:Wt) (h:l[i]?=some x):s.refuseL n k (l.take (i+1))=(s.refuseL n k (l.take i)).refuse n k x:=by
  rw [List.take_add_one,h]
  simp [PS.refuseL]
theorem flatten_get {α:Type} {m:Nat}:∀ (l:List (List α)) (i j:Nat) (x:List α),(∀ y∈l,y.length=m)→l[i]?=some x→j<m→l.flatten[i*m+j]?=x[j]?
  | [],i,j,x,_,h,_=>by simp at h
  | y :: r,0,j,x,hl,h,hj=>by
    simp at h
    subst h
    rw [List.flatten_cons,List.getElem?_append_left (by rw [hl y (by simp)];omega)]
    simp
  | y :: r,i+1,j,x,hl,h,hj=>by
    have hy:=hl y (by simp)
    rw [List.flatten_cons,List.getElem?_append_right (by rw [hy,Nat.succ_mul];omega)]
    have:=flatten_get r i j x (fun z hz=>hl z (by simp [hz])) (by simpa using h) hj
    rw [← this,hy]
    congr 1
    rw [Nat.succ_mul];omega
theorem Loose.cells {own:Own} {w:World} {a:Option Addr} {n c:Nat} {l:List Wt} (h:Loose own w 146 4 (.slice a n c) (l.map wtL)) {i:Nat} {x:Wt} (hi:l[i]?=some x) :
    ∃ b,a=some ⟨b,0,none⟩∧b<w.heap.size∧own b=none∧w.cell? ⟨b,i*4,none⟩=some (.int .i64 x.child)∧w.cell? ⟨b,i*4+1,none⟩=some (.int .i64 x.serial)∧w.cell? ⟨b,i*4+2,none⟩=some (.int .i64 x.tag)∧w.cell? ⟨b,i*4+3,none⟩=some (.int .i64 x.id):=by
 have hlen:i<l.length:=(List.getElem?_eq_some_iff.1 hi).1
 have hr:=h.row
 have hr':=hr
 obtain ⟨hl,⟨hv,h0⟩|⟨b,cap,cur,hv,_⟩⟩:=hr
 ·simp at h0;subst h0;simp at hlen
 ·cases hv
  have hc:=fun j (hj:j<4)=>hr'.cellAt (i*4+j) (by simp;omega)
  have hfl:=fun j (hj:j<4)=>flatten_get (l.map wtL) i j (wtL x) (m:=4) (by intro y hy;obtain ⟨z,_,rfl⟩:=List.mem_map.1 hy;rfl) (by simp [hi]) hj
  refine ⟨b,rfl,(hr'.lt b rfl).2,h.free b rfl,?_,?_,?_,?_⟩
  ·have:=hc 0 (by omega);rw [hfl 0 (by omega)] at this;exact this
  ·rw [hc 1 (by omega),hfl 1 (by omega)];rfl
  ·rw [hc 2 (by omega),hfl 2 (by omega)];rfl
  ·rw [hc 3 (by omega),hfl 3 (by omega)];rfl
theorem refuseAll_any (own:Own) (τ bt:Nat) (g:Gh) (s:PS) (n:Nat) (k:ByteArray) (f:Ft) (w:World) (h:Lies own τ w bt g s) (hap:s.fts.Pairwise (fun p q=>p.2.serial≠q.2.serial)) (hpos:∀ p∈s.fts,0<p.2.serial) (hf:aget s.fts (n,k)=some f) (h1:n<1000) (h2:k.size≤100)
    (hl1:s.net.length+f.l.length<1000000000000) (hl2:s.answers.length+f.l.length<1000000000000) :
    Calls Tryz.prog 84 #[.pointer (some ⟨bt,0,none⟩),placeV (n,k)] w fun r w'=>r= .returned (.tuple #[])∧∃ own' g',Lies own' τ w' bt g' (({ s with fts:=adel s.fts (n,k) }:PS).refuseL n k f.l)∧Step τ own own' w w'∧g.Like g':=by
 obtain ⟨fa,fc,hfv⟩:=row_form (h.waits _ (aget_mem hf)).row
 have hfl:(f.l.map wtL).length=f.l.length:=by simp
 dsimp only at hfv
 rw [hfl] at hfv
 have KE:=hide (fun w h=>end_any own τ bt g s n k f w h hap hpos hf h1 h2)
 rw [hfv] at KE
 have HH:=hide h
 have hln:Hid (s.net.length+f.l.length<1000000000000∧s.answers.length+f.l.length<1000000000000):=⟨hl1,hl2⟩
 have hfl9:f.l.length<1000000000000:=by omega
 generalize hs1:({ s with fts:=adel s.fts (n,k) }:PS)=s1 at *
 have hln1:Hid (s1.net.length+f.l.length<1000000000000∧s1.answers.length+f.l.length<1000000000000):=by rw [← hs1];exact hln
 clear h hap hpos hf hfv hfl hl1 hl2 hs1 hln
 generalize f.l=L at *
 unfold placeV at *
 dsimp only at *
 go_enter Tryz.func84,Tryz.ntmps84
 go_wp2_with fail
 generalize hW:World.alloc _ _=W0
 have T0:Turn nO w W0:=by rw [← hW];exact Turn.alloc _ _ _
 have hb0:W0.heap[w.heap.size]?=some (.cells #[.int .i64 (n:Int),.string k] 124 (0,0)):=by rw [← hW];exact new1_0 _ _
 have hsz:W0.heap.size=w.heap.size+1:=by rw [← hW];simp
 have hno:own w.heap.size=none:=(uH HH).top _ (Nat.le_refl _)
 refine (uH KE W0 ((uH HH).turn T0)).mono ?_
 rintro e w1 ⟨rfl,own1,L1,S1,R1⟩
 clear hW
 have x0:w1.cell? ⟨w.heap.size,0,none⟩=some (.int .i64 (n:Int)):=S1.cell (cOf hb0 0) hno
 have x1:w1.cell? ⟨w.heap.size,1,none⟩=some (.string k):=S1.cell (cOf hb0 1) hno
 have hno1:own1 w.heap.size=none:=S1.free (by omega) hno
 have HR1:=hide (And.intro L1 (And.intro ((Step.of_turn T0).trans S1) (And.intro R1 hno1)))
 clear L1 S1 R1 hno1 hno hb0 KE
 go_wp2
 go_loopw [10] (fun i wr=>∃ (j:Nat) (own':Own) (g':Gh),j≤L.length∧i= .int .i64 (j:Int)∧wr.cell? ⟨w.heap.size,0,none⟩=some (.int .i64 (n:Int))∧wr.cell? ⟨w.heap.size,1,none⟩=some (.string k) ∧
   Hid (Lies own' τ wr bt g' (s1.refuseL n k (L.take j))∧Step τ own own' w wr∧Loose own' wr 146 4 (.slice fa L.length fc) (L.map wtL)∧own' w.heap.size=none∧g.Like g')) (fun i _=>L.length - (intOf i).toNat)
 case atStart=>exact ⟨0,own1,g,Nat.zero_le _,by simp,x0,x1,by have h:=uH HR1;exact ⟨by simpa [PS.refuseL] using h.1,h.2.1,h.2.2.1,h.2.2.2,Gh.Like.refl g⟩⟩
 case round =>
   obtain ⟨j,own',g',hj,rfl,y0,y1,HR⟩:=hrel
   by_cases hlt:j<L.length
   ·obtain ⟨x,hx⟩:∃ x,L[j]?=some x:=⟨_,List.getElem?_eq_getElem hlt⟩
    obtain ⟨b,rfl,hb,hbo,c0,c1,c2,c3⟩:=(uH HR).2.2.1.cells hx
    have j0:(0:Int)≤(j:Int):=by omega
    have j1:(j:Int)<(L.length:Int):=by omega
    have hbs:w.heap.size<wr.heap.size:=cell_lt y0
    go_wp2_with fail
    have TA:Turn nO wr (wr.alloc (.cells #[.int .i64 x.child,.int .i64 x.serial,.int .i64 x.tag,.int .i64 x.id] 146)):=Turn.alloc _ _ _
    have hl:=PS.refuseL_net n k (L.take j) s1
    have hlt':(L.take j).length=j:=by simp;omega
    have hq:=uH hln1
    refine (refuse_any own' τ bt g' (s1.refuseL n k (L.take j)) n k x _ ((uH HR).1.turn TA) (by omega) (by omega)).mono ?_
    rintro e w2 ⟨rfl,own2,g2,L2,S2,GL2⟩
    clear hl hlt' hq
    have SA:=(Step.of_turn (τ:=τ) (own:=own') TA).trans S2
    have z0:=SA.cell y0 (uH HR).2.2.2.1
    have z1:=SA.cell y1 (uH HR).2.2.2.1
    have hno2:own2 w.heap.size=none:=SA.free (cell_lt y0) (uH HR).2.2.2.1
    have HR2:Hid (Lies own2 τ w2 bt g2 (s1.refuseL n k (L.take (j+1)))∧Step τ own own2 w w2∧Loose own2 w2 146 4 (.slice (some ⟨b,0,none⟩) L.length fc) (L.map wtL)∧own2 w.heap.size=none∧g.Like g2):=by
      refine ⟨?_,(uH HR).2.1.trans SA,(uH HR).2.2.1.step SA,hno2,(uH HR).2.2.2.2.trans GL2⟩
      rw [PS.refuseL_snoc s1 n k L j x hx];exact L2
    clear L2 S2 SA TA HR hno2 GL2 HR1 y0 y1 c0 c1 c2 c3
    go_wp2
    go_roundw
    case rel=>exact ⟨j+1,own2,g2,by omega,by go_num,z0,z1,HR2⟩
    case measure=>simp [intOf];omega
   ·go_wp2
    go_end0
    have e:j=L.length:=by omega
    subst e
    rw [List.take_length] at HR
    exact ⟨rfl,own',g',(uH HR).1,(uH HR).2.1,(uH HR).2.2.2.2⟩
end
end Go.Proofs.YtpdkojgepagbnaaGreatDoor
