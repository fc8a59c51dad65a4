/-
  The document's tier: Crash, Double: whatever they are called with.
  The document's tier: all who waited are refused; Timeout, whatever it is called with.
  The document's tier: what an answer turns, as plain data: sizes stay what they are.
  The document's tier: an answer has come to a cache.
  The document's tier: the answer to a fetch that is under way has come.
-/
import Derived.Test.YtpdkojgepagbnaaGreatDoorJ33
import Derived.Deep.RegionLaw
namespace Go.Proofs.YtpdkojgepagbnaaGreatDoor
set_option maxRecDepth 100000
set_option maxHeartbeats 8000000
section
open Go.RowKit
open Tier (Mes Ans Conf St Kept Wtr Ftc Cac)
attribute [local go_sem ↓] Go.wp_at_zero Go.wp_at_succ
variable {own own':Own} {τ:Nat} {w w1 w2 w':World} {br:Nat} {g g':RGh} {t t':St}
theorem RLies.crashed (h:RLies own τ w br g t) {n:Nat} (hn:n<t.caches.length):RLeaves own τ w br (t.crash n) (((w.setCell ⟨g.bc,n*3,none⟩ (.int .i64 (t.cac n).clock)).setCell ⟨g.bc,n*3+1,none⟩ (.slice none 0 0)).setCell ⟨g.bc,n*3+2,none⟩ (.slice none 0 0)):=by
  have hcac:∀ m,(t.crash n).cac m=if m=n then ⟨(t.cac n).clock,[],[]⟩ else t.cac m:=fun m=>by
    unfold Tier.St.crash
    rw [Tier.cac_set]
    by_cases e:m=n
    ·rw [if_pos ⟨e,hn⟩,if_pos e]
    ·rw [if_neg (fun c=>e c.1),if_neg e]
  have hlen:(t.crash n).caches.length=t.caches.length:=Tier.length_set t n _
  have h6:=h.few
  have T:Turn (fun k=>∃ x,x=4∧own k=some (τ,x)) w (((w.setCell ⟨g.bc,n*3,none⟩ (.int .i64 (t.cac n).clock)).setCell ⟨g.bc,n*3+1,none⟩ (.slice none 0 0)).setCell ⟨g.bc,n*3+2,none⟩ (.slice none 0 0)) :=
    (((Turn.refl _ _).sS (Or.inr ⟨4,rfl,h.cacsO⟩)).sS (Or.inr ⟨4,rfl,h.cacsO⟩)).sS (Or.inr ⟨4,rfl,h.cacsO⟩)
  have F:Fr (fun x=>x=4∨x=10+n∨x=20+n) own own τ w (((w.setCell ⟨g.bc,n*3,none⟩ (.int .i64 (t.cac n).clock)).setCell ⟨g.bc,n*3+1,none⟩ (.slice none 0 0)).setCell ⟨g.bc,n*3+2,none⟩ (.slice none 0 0)) :=
    ⟨fun q hq x hx ho=>⟨T.block q hq (fun ⟨y,hy,hyo⟩=>hx (Or.inl ((lab_ne ho hyo).trans hy))),rfl⟩⟩
  have nilRow:∀ x e size W,Row own τ x W e size (.slice none 0 0) []:=fun x e size W=>⟨World.ownsRow_nil _ _ _ _,fun k hk=>by cases hk⟩
  refine ⟨own,{ g with ev:=fun m=>if m=n then .slice none 0 0 else g.ev m,fv:=fun m=>if m=n then .slice none 0 0 else g.fv m },h.next _ F (fun k hk=>h.top k (by simpa using hk)) (by omega) hlen rfl rfl ?_ h.blockO (Or.inl ⟨by omega,rfl,rfl⟩) ?_ h.cacsO (Or.inl ⟨by omega,rfl,rfl⟩) (Or.inl ⟨by omega,rfl,rfl⟩) (fun m hm=>?_) (fun m hm=>?_) (fun m hm f hf=>Or.inl ⟨by omega,rfl,f,?_,rfl,rfl⟩),step_of T (fun _ _=>Or.inl rfl)⟩
  ·have:=F.block h.blockO (by omega) h.block
   rw [this]
   unfold refC
   rw [hlen];rfl
  ·have c1:CacsAt (w.setCell ⟨g.bc,n*3+0,none⟩ (.int .i64 (t.cac n).clock)) g.bc g.ev g.fv t:=h.cacs.put (i:=0) hn (by omega) _ rfl (fun m _=>by
     by_cases e:m=n
     ·rw [if_pos ⟨e,rfl⟩,e]
     ·rw [if_neg (fun c=>e c.1)]) (fun m _=>by rw [if_neg (by omega)]) (fun m _=>by rw [if_neg (by omega)])
   have c2:=c1.put (i:=1) (ev':=fun m=>if m=n then .slice none 0 0 else g.ev m) (fv':=g.fv) (t':=t) hn (by omega) (.slice none 0 0) rfl (fun m _=>by rw [if_neg (by omega)]) (fun m _=>by
     by_cases e:m=n
     ·rw [if_pos ⟨e,rfl⟩,if_pos e]
     ·rw [if_neg (fun c=>e c.1),if_neg e]) (fun m _=>by rw [if_neg (by omega)])
   have c3:=c2.put (i:=2) (ev':=fun m=>if m=n then .slice none 0 0 else g.ev m) (fv':=fun m=>if m=n then .slice none 0 0 else g.fv m) (t':=t) hn (by omega) (.slice none 0 0) rfl (fun m _=>by rw [if_neg (by omega)]) (fun m _=>by rw [if_neg (by omega)]) (fun m _=>by
     by_cases e:m=n
     ·rw [if_pos ⟨e,rfl⟩,if_pos e]
     ·rw [if_neg (fun c=>e c.1),if_neg e])
   refine c3.like hlen (fun m=>?_)
   rw [hcac]
   split
   ·next e=>rw [e]
   ·rfl
  ·by_cases e:m=n
   ·subst e
    refine Or.inr ?_
    rw [hcac,if_pos rfl]
    show Row _ _ _ _ _ _ (if m=m then _ else _) _
    rw [if_pos rfl]
    exact nilRow _ _ _ _
   ·refine Or.inl ⟨by omega,?_,?_⟩
    ·show (if m=n then _ else g.ev m)=_
     rw [if_neg e]
    ·rw [hcac,if_neg e]
  ·by_cases e:m=n
   ·subst e
    refine Or.inr ?_
    rw [hcac,if_pos rfl]
    show Row _ _ _ _ _ _ (if m=m then _ else _) _
    rw [if_pos rfl]
    exact nilRow _ _ _ _
   ·refine Or.inl ⟨by omega,?_,?_⟩
    ·show (if m=n then _ else g.fv m)=_
     rw [if_neg e]
    ·rw [hcac,if_neg e]
  ·rw [hcac] at hf
   split at hf
   ·cases hf
   ·exact hf
def crashE (t:St) (n:Int):Int:=if cacheB t n=false then 2 else 0
def crashS (t:St) (n:Int):St:=if crashE t n=0 then t.crash n.toNat else t
theorem rCrash_any (h:RLies own τ w br g t) (n:Int) :
    Calls Tryz.prog 54 #[.pointer (some ⟨br,0,none⟩),.int .i64 n] w fun e w'=>e= .returned (.int .i64 (crashE t n))∧RLeaves own τ w br (crashS t n) w':=by
 have KC:=hide (rcache_any h n)
 have HH:=hide h.stays
 cases hc:cacheB t n with
 | false =>
   have e1:crashE t n=2:=by unfold crashE;rw [hc];rfl
   have e2:crashS t n=t:=by unfold crashS;rw [e1];rfl
   rw [e1,e2]
   rw [show (decide (1≤n) && decide (n<(t.caches.length:Int)))=false from hc] at KC
   clear h e1 e2 hc
   go_enter Tryz.func54,Tryz.ntmps54
   go_wp2_with fail
   refine (uH KC).mono ?_
   rintro e w1 ⟨rfl,rfl⟩
   go_wp2
   go_ret
   exact ⟨rfl,uH HH⟩
 | true =>
   obtain ⟨m,rfl,m0,m1⟩:=cacheB_nat hc
   rw [show (decide (1≤(m:Int)) && decide ((m:Int)<(t.caches.length:Int)))=true from hc] at KC
   have e1:crashE t m=0:=by unfold crashE;rw [hc];rfl
   have e2:crashS t m=t.crash m:=by unfold crashS;rw [e1,if_pos rfl,Int.toNat_natCast]
   rw [e1,e2]
   have d6:w.cell? ⟨br,6,none⟩=some (.slice (some ⟨g.bc,0,none⟩) t.caches.length t.caches.length):=cOf h.block 6
   obtain ⟨k0,k1,k2,kf⟩:=h.cacs.at_ m1
   have kf0:=kf (m*3)
   have kf1:=kf (m*3+1)
   have kf2:=kf (m*3+2)
   have n0:(0:Int)≤(m:Int):=by omega
   have n1:(m:Int)<(t.caches.length:Int):=by omega
   have HR:=hide (fun (w':World) (T:Turn nO w w')=>((h.turn T).crashed m1).trans (Step.of_turn T))
   generalize t.crash m=tt at *
   generalize (t.cac m).clock=ck at *
   generalize t.caches.length=ml at *
   clear h e1 e2 hc kf
   go_enter Tryz.func54,Tryz.ntmps54
   go_wp2_with fail
   refine (uH KC).mono ?_
   rintro e w1 ⟨rfl,rfl⟩
   go_wp2
   go_region
   all_goals go_wp2
   all_goals go_ret
   all_goals exact ⟨rfl,uH HR _ (Turn.drew _ _)⟩
def doubleE (t:St) (i:Int):Int:=if placeB t i=false then 6 else if 64≤t.net.length then 7 else 0
def doubleS (t:St) (i:Int):St:=if doubleE t i=0 then { t with net:=t.net ++ (t.net[i.toNat]?).toList } else t
theorem rDouble_any (h:RLies own τ w br g t) (i:Int) :
    Calls Tryz.prog 50 #[.pointer (some ⟨br,0,none⟩),.int .i64 i] w fun e w'=>e= .returned (.int .i64 (doubleE t i))∧RLeaves own τ w br (doubleS t i) w':=by
 have HH:=hide h.stays
 obtain ⟨na,nc,hnv⟩:=rowForm h.net
 have d7:w.cell? ⟨br,7,none⟩=some (.slice na t.net.length nc):=by rw [← hnv];exact cOf h.block 7
 by_cases h0:i<0
 ·have e1:doubleE t i=6:=by unfold doubleE placeB;rw [decide_eq_false (by omega)];rfl
  have e2:doubleS t i=t:=by unfold doubleS;rw [e1];rfl
  rw [e1,e2]
  clear h e1 e2 hnv
  go_enter Tryz.func50,Tryz.ntmps50
  go_wp2
  go_ret
  exact ⟨rfl,uH HH⟩
 by_cases h1:i<(t.net.length:Int)
 ·have hp:placeB t i=true:=by unfold placeB;rw [decide_eq_true (by omega),decide_eq_true h1];rfl
  obtain ⟨j,m,rfl,hj,hm⟩:=placeB_nat hp
  by_cases h64:64≤t.net.length
  ·have e1:doubleE t j=7:=by unfold doubleE;rw [hp,if_neg (by decide),if_pos h64]
   have e2:doubleS t j=t:=by unfold doubleS;rw [e1];rfl
   rw [e1,e2]
   have h64':(64:Int)≤(t.net.length:Int):=by omega
   generalize t.net.length=nl at *
   clear h e1 e2 hnv hp
   go_enter Tryz.func50,Tryz.ntmps50
   go_wp2
   go_ret
   exact ⟨rfl,uH HH⟩
  ·have e1:doubleE t j=0:=by unfold doubleE;rw [hp,if_neg (by decide),if_neg h64]
   have e2:doubleS t j={ t with net:=t.net ++ [m] }:=by unfold doubleS;rw [e1,if_pos rfl,Int.toNat_natCast,hm];rfl
   rw [e1,e2]
   obtain ⟨mi,mhi,mz0,mz1,mz2⟩:=info_parts infoMes
   obtain ⟨nb,nc',hnv',hno,_,hnc,_⟩:=rowAt h.net (fun _=>rfl) hm
   rw [hnv] at hnv'
   cases hnv'
   have f7:w.frozen? ⟨br,7,none⟩=false:=fOf h.block 7
   obtain ⟨c0,c1,c2,c3,c4,c5,c6,c7,c8⟩:=rC9 hnc
   have h64':¬ (64:Int)≤(t.net.length:Int):=by omega
   have j0:(0:Int)≤(j:Int):=by omega
   have HL:=hide h
   have hN:=hide h.net.row
   have hbt:br<w.heap.size:=h.lt
   have hnl:nb<w.heap.size:=cell_lt c0
   have hNb:Hid (some br≠g.nv.ownBlock):=fun e=>by have:=lab_ne h.blockO (h.net.mine _ e.symm);omega
   have HGV:Hid (g.nv= .slice (some ⟨nb,0,none⟩) t.net.length nc):=hnv
   obtain ⟨kind,frm,to_,key,serial,ver,age,pres,val⟩:=m
   dsimp only at *
   rw [hnv,List.length_map] at hN
   rw [hnv] at hNb
   have hlen':t.net.length<64:=by omega
   generalize hxs:(t.net.map mesL).flatten=xs at *
   generalize hnn:t.net.length=nl at *
   have hm1:nl+1≤maxLen:=by unfold maxLen;omega
   have hm2:(nl+1)*88≤140737488355328:=by omega
   clear h e1 e2 hnv hp hm hnc h64
   go_enter Tryz.func50,Tryz.ntmps50
   go_wp2
   go_region_law ((refine step_append_lies _ (by rfl) _ _ _ (by rfl) 0 37 mi _ 9 88 Tryz.underlying59 mhi mz0 mz1 mz2 rfl (by omega) (.slice (some ⟨nb,0,none⟩) nl nc) nl xs (by rfl) ((uH hN).alloc _).drew ⟨w.heap.size,0,none⟩ 1 1 [.int .i64 kind,.int .i64 frm,.int .i64 to_,.string key,.int .i64 serial,.int .i64 ver,.int .i64 age,.int .i64 pres,.string val] (by rfl) (by rfl) (World.news_of_block (cs:=#[.int .i64 kind,.int .i64 frm,.int .i64 to_,.string key,.int .i64 serial,.int .i64 ver,.int .i64 age,.int .i64 pres,.string val]) (t:=37) (fr:=(0,0)) (heap_alloc_new w _)) (by simp [Value.oneCell']) (by omega) hm1 hm2 (by simp) (w.heap.size+1) (by simp) ?_;intro gb cap w1 hown1 hgrow hat hlt;have q15:=far_cell hgrow d7 (uH hNb);have q15f:=far_froz hgrow d7 f7 (uH hNb)))
   all_goals go_wp2
   all_goals go_ret
   all_goals obtain ⟨L,S⟩:=((uH HL).turn ((Turn.alloc nO w _).sD)).sent (w1:=w1) (m:=⟨kind,frm,to_,key,serial,ver,age,pres,val⟩) (gb:=gb) (cap:=cap) (by rw [List.length_map,hnn,hxs];exact hown1) (by rw [uH HGV];exact hgrow) (by rw [uH HGV];exact hat.imp id (fun e=>by rw [e];simp)) hlt
   all_goals rw [List.length_map,hnn] at L S
   all_goals exact ⟨rfl,_,_,L,(Step.of_turn ((Turn.alloc nO w _).sD)).trans S⟩
 ·have e1:doubleE t i=6:=by unfold doubleE placeB;rw [decide_eq_false h1,Bool.and_false];rfl
  have e2:doubleS t i=t:=by unfold doubleS;rw [e1];rfl
  rw [e1,e2]
  generalize t.net.length=nl at *
  clear h e1 e2 hnv
  go_enter Tryz.func50,Tryz.ntmps50
  go_wp2
  go_ret
  exact ⟨rfl,uH HH⟩
theorem looseAt {α:Type} {f:α→List Value} {e m:Nat} {v:Value} {l:List α} (h:Loose own w e m v (l.map f)) (hm:∀ a,(f a).length=m) {j:Nat} {a:α} (hj:l[j]?=some a) :
    ∃ b c,v= .slice (some ⟨b,0,none⟩) l.length c∧own b=none∧b<w.heap.size∧(∀ i,i<m→w.cell? ⟨b,j*m+i,none⟩=(f a)[i]?):=by
 have hlen:j<l.length:=(List.getElem?_eq_some_iff.1 hj).1
 have hr:=h.row
 have hr':=hr
 obtain ⟨hl,⟨hv,h0⟩|⟨b,cap,cur,hv,_,hg,_⟩⟩:=hr
 ·rw [List.length_map] at h0;omega
 ·rw [hv] at hr'
  refine ⟨b,cap,by rw [hv,List.length_map],h.free b (by rw [hv];rfl),heap_lt hg,fun i hi=>?_⟩
  have h1:j*m+i<(l.map f).length*m:=by
    have:(j+1)*m≤l.length*m:=Nat.mul_le_mul_right m hlen
    rw [Nat.succ_mul] at this
    rw [List.length_map]
    omega
  rw [hr'.cellAt (j*m+i) h1]
  exact flatten_get (l.map f) j i (f a) (by intro y hy;obtain ⟨z,_,rfl⟩:=List.mem_map.1 hy;exact hm z) (by simp [hj]) hi
structure WLoop (own:Own) (τ:Nat) (w wr:World) (br:Nat) (t:St) (l:List Wtr) (v:Value):Prop where
  is:∃ own' g',RLies own' τ wr br g' t∧Step τ own own' w wr∧Loose own' wr 149 4 v (l.map wtrL)
theorem WLoop.next {wr wx:World} {l:List Wtr} {v:Value} (o:Own) (S0:Step τ own o w wr) (L:Loose o wr 149 4 v (l.map wtrL)) (R:RLeaves o τ wr br t wx):WLoop own τ w wx br t l v:=by
  obtain ⟨o',g',R,S⟩:=R.is
  exact ⟨o',g',R,S0.trans S,L.step S⟩
theorem ROver.loop {l:List Wtr} {v:Value} (R:ROver own τ w br t l v w'):WLoop own τ w w' br t l v:=by
  obtain ⟨o,g',R,S,V⟩:=R.is
  obtain ⟨R2,S2,L⟩:=R.loosen V
  exact ⟨_,g',R2,S.trans S2,L⟩
theorem WLoop.leaves {wr:World} {l:List Wtr} {v:Value} (W:WLoop own τ w wr br t l v):RLeaves own τ w br t wr:=by
  obtain ⟨o,g',R,S,_⟩:=W.is
  exact ⟨o,g',R,S⟩
theorem refused_len (t:St) (n:Nat) (k:ByteArray) (x:Wtr):(t.refused n k x).net.length≤t.net.length+1∧(t.refused n k x).answers.length≤t.answers.length+1:=by
  unfold Tier.St.refused
  split
  ·exact ⟨Nat.le_succ _,by show (t.answers ++ [_]).length≤_;rw [List.length_append];exact Nat.le_refl _⟩
  ·exact ⟨by show (t.net ++ [_]).length≤_;rw [List.length_append];exact Nat.le_refl _,Nat.le_succ _⟩
theorem refuseAll_len (n:Nat) (k:ByteArray):∀ (l:List Wtr) (t:St),(t.refuseAll n k l).net.length≤t.net.length+l.length∧(t.refuseAll n k l).answers.length≤t.answers.length+l.length
  | [],_=>⟨Nat.le_refl _,Nat.le_refl _⟩
  | x :: l,t=>by
    have h1:=refused_len t n k x
    have h2:=refuseAll_len n k l (t.refused n k x)
    have e:t.refuseAll n k (x :: l)=(t.refused n k x).refuseAll n k l:=rfl
    rw [e,List.length_cons]
    omega
theorem refuseAll_snoc (t:St) (n:Nat) (k:ByteArray) (l:List Wtr) (j:Nat) (x:Wtr) (h:l[j]?=some x):t.refuseAll n k (l.take (j+1))=(t.refuseAll n k (l.take j)).refused n k x:=by
  unfold Tier.St.refuseAll
  rw [List.take_add_one,h]
  simp [List.foldl_append]
def timeE (t:St) (n:Int) (k:ByteArray):Int:=if cacheB t n=false then 2 else if keyB k=false then 3 else t.timeoutE n.toNat k
def timeS (t:St) (n:Int) (k:ByteArray):St:=if timeE t n k=0 then t.timeout n.toNat k else t
theorem rTimeout_any (h:RLies own τ w br g t) (n:Int) (k:ByteArray) (hk:k.size≤maxLen) (hf:∀ m:Nat,0<m→m<t.caches.length→WFine t m) (hl1:t.net.length≤900000000000) (hl2:t.answers.length≤900000000000) :
    Calls Tryz.prog 52 #[.pointer (some ⟨br,0,none⟩),.int .i64 n,.string k] w fun r w'=>r= .returned (.int .i64 (timeE t n k))∧RLeaves own τ w br (timeS t n k) w':=by
 have KC:=hide (rcache_any h n)
 have HH:=hide h.stays
 cases hc:cacheB t n with
 | false =>
   have e1:timeE t n k=2:=by unfold timeE;rw [hc];rfl
   have e2:timeS t n k=t:=by unfold timeS;rw [e1];rfl
   rw [e1,e2]
   rw [show (decide (1≤n) && decide (n<(t.caches.length:Int)))=false from hc] at KC
   clear h e1 e2 hc hf hl1 hl2
   go_enter Tryz.func52,Tryz.ntmps52
   go_wp2_with fail
   refine (uH KC).mono ?_
   rintro e w1 ⟨rfl,rfl⟩
   go_wp2
   go_ret
   exact ⟨rfl,uH HH⟩
 | true =>
   obtain ⟨m,rfl,m0,m1⟩:=cacheB_nat hc
   rw [show (decide (1≤(m:Int)) && decide ((m:Int)<(t.caches.length:Int)))=true from hc] at KC
   have KK:=hide (fun w=>key_any k w hk)
   cases hkb:keyB k with
   | false =>
     have e1:timeE t m k=3:=by unfold timeE;rw [hc,hkb];rfl
     have e2:timeS t m k=t:=by unfold timeS;rw [e1];rfl
     rw [e1,e2]
     rw [hkb] at KK
     clear h e1 e2 hc hkb hf hl1 hl2
     go_enter Tryz.func52,Tryz.ntmps52
     go_wp2_with fail
     refine (uH KC).mono ?_
     rintro e w1 ⟨rfl,rfl⟩
     go_wp2_with fail
     refine (uH KK _).mono ?_
     rintro e w1 ⟨rfl,rfl⟩
     go_wp2
     go_ret
     exact ⟨rfl,uH HH⟩
   | true =>
     rw [hkb] at KK
     have hfm:=hf m m0 m1
     have KI:=hide (rfetch_any h m1 (Nat.le_of_lt hfm.ftl) k)
     have e0:timeE t m k=t.timeoutE m k:=by unfold timeE;rw [hc,hkb];rfl
     rcases idx_spec Ftc.key k (t.cac m).fts with ⟨i,f,i1,i2,i3,i4⟩|⟨i1,i2⟩
     ·have hfe:t.fetch m k=some f:=i4
      have e1:timeE t m k=0:=by rw [e0];unfold Tier.St.timeoutE;rw [hfe];rfl
      have e2:timeS t m k=(t.over m k).refuseAll m k f.l:=by unfold timeS;rw [e1,if_pos rfl,Int.toNat_natCast];unfold Tier.St.timeout;rw [hfe]
      rw [e1,e2]
      rw [i1] at KI
      have hmem:=List.mem_of_getElem? i2
      have KO:=hide (rover_any h hfm.ff m1 (k:=k) i2 (fun f' hf'=>⟨fun hk'=>hfm.uniq f' f hf' hmem (hk'.trans i3.symm),fun e=>by rw [e];exact i3⟩) (Nat.le_of_lt hfm.ftl))
      have HLL:Hid (f.l.length<1000000):=hfm.wl f hmem
      have HLN:Hid ((t.over m k).net.length≤900000000000∧(t.over m k).answers.length≤900000000000):=⟨hl1,hl2⟩
      have HRL:=hide (fun j x=>refuseAll_snoc (t.over m k) m k f.l j x)
      have HRN:=hide (fun j=>refuseAll_len m k (f.l.take j) (t.over m k))
      generalize t.over m k=to_ at *
      generalize f.l=l at *
      have hi0:¬ (i:Int)<0:=by omega
      clear h e0 e1 e2 hc hkb hf hl1 hl2 hfm hmem i1 i2 i3 i4 hfe
      go_enter Tryz.func52,Tryz.ntmps52
      go_wp2_with fail
      refine (uH KC).mono ?_
      rintro e w1 ⟨rfl,rfl⟩
      go_wp2_with fail
      refine (uH KK _).mono ?_
      rintro e w1 ⟨rfl,rfl⟩
      go_wp2_with fail
      refine (uH KI).mono ?_
      rintro e w1 ⟨rfl,rfl⟩
      clear KI
      go_wp2_with fail
      refine (uH KO).mono ?_
      rintro e w2 ⟨la,lc,rfl,RO⟩
      have HW0:Hid (WLoop own τ w1 w2 br (to_.refuseAll m k (l.take 0)) l (.slice la l.length lc)):=RO.loop
      clear RO KO KC KK HH
      generalize hN:l.length=N at *
      go_wp2
      go_loopw [11] (fun i wr=>∃ j:Nat,j≤N∧i= .int .i64 (j:Int)∧Hid (WLoop own τ w1 wr br (to_.refuseAll m k (l.take j)) l (.slice la N lc))) (fun i _=>N - (intOf i).toNat)
      case atStart=>exact ⟨0,Nat.zero_le _,rfl,HW0⟩
      case round =>
        clear HW0
        obtain ⟨j,jN,rfl,HW⟩:=hrel
        have hjw:IntKind.i64.wrap ((j:Int)+1)=(j:Int)+1:=by rw [IntKind.wrap_i64];have:=uH HLL;omega
        by_cases hlt:j<N
        ·obtain ⟨x,hx⟩:∃ x,l[j]?=some x:=⟨_,List.getElem?_eq_getElem (by omega)⟩
         obtain ⟨o,g1,R,S,L⟩:=(uH HW).is
         obtain ⟨b,c',ev,_,_,hcl⟩:=looseAt L (fun _=>rfl) hx
         rw [hN] at ev
         cases ev
         obtain ⟨c0,c1,c2,c3⟩:=rC4 hcl
         have j0:(0:Int)≤(j:Int):=by omega
         have j1:(j:Int)<(N:Int):=by omega
         have hln:=uH HRN j
         rw [List.length_take] at hln
         have KR:=hide (rrefused_any R (by have:=(uH HLN).1;have:=uH HLL;omega) (by have:=(uH HLN).2;have:=uH HLL;omega) m k x)
         rw [← uH HRL j x hx] at KR
         have HNX:=hide (fun wx (R':RLeaves o τ wr br (to_.refuseAll m k (l.take (j+1))) wx)=>WLoop.next o S L R')
         obtain ⟨xn,xi,xs,xt⟩:=x
         unfold wtrV wtrL at KR
         dsimp only at *
         clear R S L hcl hx hln HW
         go_wp2_with fail
         refine (uH KR).mono ?_
         rintro e w3 ⟨rfl,R3⟩
         have HW':=hide (uH HNX _ R3)
         clear R3 HNX KR c0 c1 c2 c3
         go_wp2
         go_roundw
         case rel=>exact ⟨j+1,by omega,by go_num,HW'⟩
         case measure=>simp [intOf];omega
        ·have j1:¬ (j:Int)<(N:Int):=by omega
         have hall:l.take j=l:=List.take_of_length_le (by omega)
         have HE:Hid (RLeaves own τ w1 br (to_.refuseAll m k l) wr):=by have:=(uH HW).leaves;rw [hall] at this;exact this
         clear HW hall
         go_wp2
         go_ret
         exact ⟨rfl,uH HE⟩
     ·have hfe:t.fetch m k=none:=i2
      have e1:timeE t m k=8:=by rw [e0];unfold Tier.St.timeoutE;rw [hfe];rfl
      have e2:timeS t m k=t:=by unfold timeS;rw [e1];rfl
      rw [e1,e2]
      rw [i1] at KI
      clear h e0 e1 e2 hc hkb hf hl1 hl2 hfm i1 i2 hfe
      go_enter Tryz.func52,Tryz.ntmps52
      go_wp2_with fail
      refine (uH KC).mono ?_
      rintro e w1 ⟨rfl,rfl⟩
      go_wp2_with fail
      refine (uH KK _).mono ?_
      rintro e w1 ⟨rfl,rfl⟩
      go_wp2_with fail
      refine (uH KI).mono ?_
      rintro e w1 ⟨rfl,rfl⟩
      go_wp2
      go_ret
      exact ⟨rfl,uH HH⟩
end
section
open Go.RowKit
open Tier (Mes Ans Conf St Kept Wtr Ftc Cac)
variable {own own':Own} {τ:Nat} {w w1 w2 w':World} {br:Nat} {g g':RGh} {t t':St} {n:Nat} {k:ByteArray} {e:Kept}
theorem ents_over (t:St) (n:Nat) (k:ByteArray):((t.over n k).cac n).ents=(t.cac n).ents:=Tier.cac_over_ents t n k
theorem KFine.over (h:KFine t n e) (k:ByteArray):KFine (t.over n k) n e:=⟨h.b,by rw [Tier.clock_over];exact h.s,by rw [Tier.clock_over];exact h.c,h.d⟩
theorem CFine.over (h:CFine t n) (k:ByteArray):CFine (t.over n k) n :=
  ⟨by show n<(t.setCac n _).caches.length;rw [Tier.length_set];exact h.lt,by rw [ents_over];exact h.len,fun e he=>by rw [ents_over] at he;exact (h.fine e he).over k,h.room⟩
theorem clock_usesR (t:St) (n m:Nat) (e:Kept):((t.uses n e).cac m).clock=(t.cac m).clock:=Tier.clock_set t n m _ rfl
theorem KFine.uses (h:KFine t n e) (e':Kept):KFine (t.uses n e') n e:=⟨h.b,by rw [clock_usesR];exact h.s,by rw [clock_usesR];exact h.c,h.d⟩
theorem CFine.uses (h:CFine t n) (he:KFine t n e):CFine (t.uses n e) n:=by
  refine ⟨by show n<(t.setCac n _).caches.length;rw [Tier.length_set];exact h.lt,?_,fun x hx=>?_,h.room⟩
  ·rw [Tier.cac_uses h.lt]
   show (List.take _ _).length≤_
   rw [List.length_take]
   have:=h.room
   omega
  ·rw [Tier.cac_uses h.lt] at hx
   rcases List.mem_cons.1 (List.mem_of_mem_take hx) with rfl|hx
   ·exact he.uses _
   ·exact (h.fine x (List.mem_filter.1 hx).1).uses _
theorem KFine.like {u:St} (h:KFine t n e) (hc:(u.cac n).clock=(t.cac n).clock) (hd:u.c=t.c):KFine u n e:=⟨h.b,by rw [hc];exact h.s,by rw [hc];exact h.c,by rw [hd];exact h.d⟩
theorem CFine.like {u:St} (h:CFine t n) (hc:u.caches=t.caches) (hd:u.c=t.c):CFine u n:=by
  have hcac:∀ m,u.cac m=t.cac m:=fun m=>by unfold Tier.St.cac;rw [hc]
  exact ⟨by rw [hc];exact h.lt,by rw [hcac];exact h.len,fun x hx=>by rw [hcac] at hx;exact (h.fine x hx).like (by rw [hcac]) hd,by rw [hd];exact h.room⟩
theorem CFine.told (h:CFine t n) (he:KFine t n e) (x:Wtr):CFine (t.toldBy n e x) n:=(h.uses he).like (Tier.told_parts t n e x).1 ((Tier.told_parts t n e x).2)
theorem clock_toldR (t:St) (n m:Nat) (e:Kept) (x:Wtr):((t.toldBy n e x).cac m).clock=(t.cac m).clock:=by
  have:(t.toldBy n e x).cac m=(t.uses n e).cac m:=by unfold Tier.St.cac;rw [(Tier.told_parts t n e x).1]
  rw [this];exact clock_usesR t n m e
theorem KFine.told (h:KFine t n e) (e':Kept) (x:Wtr):KFine (t.toldBy n e' x) n e:=h.like (clock_toldR t n n e' x) (Tier.told_parts t n e' x).2
theorem told_len (t:St) (n:Nat) (e:Kept) (x:Wtr):(t.toldBy n e x).net.length≤t.net.length+1∧(t.toldBy n e x).answers.length≤t.answers.length+1:=by
  unfold Tier.St.toldBy
  split
  ·exact ⟨Nat.le_succ _,by show (t.answers ++ [_]).length≤_;rw [List.length_append];exact Nat.le_refl _⟩
  ·split
   ·exact ⟨by show (t.net ++ [_]).length≤_;rw [List.length_append];exact Nat.le_refl _,Nat.le_succ _⟩
   ·exact ⟨by show (t.net ++ [_]).length≤_;rw [List.length_append];exact Nat.le_refl _,Nat.le_succ _⟩
structure TellOK (u:St) (n:Nat) (k:ByteArray) (e:Kept) (b:Nat):Prop where
  cf:CFine u n
  ent:u.entry n k=some e
  kf:KFine u n e
  net:u.net.length≤900000000000+b
  ans:u.answers.length≤900000000000+b
theorem TellOK.told {u:St} {b:Nat} (h:TellOK u n k e b) (hk:e.key=k) (x:Wtr):TellOK (u.toldBy n e x) n k e (b+1) :=
  ⟨h.cf.told h.kf x,by rw [← hk];exact Tier.entry_told x h.cf.lt h.cf.room.1,h.kf.told e x,by have:=(told_len u n e x).1;have:=h.net;omega,by have:=(told_len u n e x).2;have:=h.ans;omega⟩
theorem tellAll_snoc {u:St} {l:List Wtr} {j:Nat} {x:Wtr} (h:l[j]?=some x) (he:(u.tellAll n k (l.take j)).entry n k=some e):u.tellAll n k (l.take (j+1))=(u.tellAll n k (l.take j)).toldBy n e x:=by
  unfold Tier.St.tellAll at *
  rw [List.take_add_one,h]
  simp only [Option.toList,List.foldl_append,List.foldl_cons,List.foldl_nil]
  rw [he]
theorem tellAll_ok {u:St} (h:TellOK u n k e 0) (hk:e.key=k) (l:List Wtr):∀ j,j≤l.length→TellOK (u.tellAll n k (l.take j)) n k e j
  | 0,_=>h
  | j+1,hj=>by
    obtain ⟨x,hx⟩:∃ x,l[j]?=some x:=⟨_,List.getElem?_eq_getElem (by omega)⟩
    have ih:=tellAll_ok h hk l j (by omega)
    rw [tellAll_snoc hx ih.ent]
    exact ih.told hk x
theorem tAnswered_refuse {m:Mes} {f:Ftc} (hf:t.fetch n m.key=some f) (hs:f.serial=m.serial) (hk:m.kind=4):t.answered n m=(t.over n m.key).refuseAll n m.key f.l:=by
  unfold Tier.St.answered
  rw [hf]
  dsimp only
  rw [if_neg (fun c=>c hs),if_pos hk]
theorem tAnswered_again {m:Mes} {f:Ftc} (hf:t.fetch n m.key=some f) (hs:f.serial=m.serial) (hk:m.kind=3) (hn:∀ e,t.entry n m.key=some e→e.ver≠m.ver):t.answered n m=(t.over n m.key).sends n m.key (-1) f.l:=by
  unfold Tier.St.answered
  rw [hf]
  dsimp only
  rw [if_neg (fun c=>c hs),if_neg (by omega),if_pos ⟨hk,hn⟩]
theorem answered_taken {m:Mes} {f:Ftc} (hf:t.fetch n m.key=some f) (hs:f.serial=m.serial) (hk4:m.kind≠4) (hk:¬ (m.kind=3∧∀ e,t.entry n m.key=some e→e.ver≠m.ver)) (hn:n<t.caches.length) (hr:1≤t.c.entries) :
    t.answered n m=if ((t.over n m.key).uses n (t.better n m (m.age+Tier.elapsed t.c.drift ((t.cac n).clock - f.sent)))).fresh n m.key=true then ((t.over n m.key).uses n (t.better n m (m.age+Tier.elapsed t.c.drift ((t.cac n).clock - f.sent)))).tellAll n m.key f.l else ((t.over n m.key).uses n (t.better n m (m.age+Tier.elapsed t.c.drift ((t.cac n).clock - f.sent)))).refuseAll n m.key f.l:=by
 unfold Tier.St.answered
 rw [hf]
 dsimp only
 rw [if_neg (fun c=>c hs),if_neg hk4,if_neg hk]
 generalize he:t.better n m (m.age+Tier.elapsed t.c.drift ((t.cac n).clock - f.sent))=e
 have hek:e.key=m.key:=by rw [← he];exact Tier.better_key _ _ _ _
 have hen:((t.over n m.key).uses n e).entry n m.key=some e:=by
   rw [← hek]
   exact Tier.entry_uses (by show n<(t.setCac n _).caches.length;rw [Tier.length_set];exact hn) hr
 have hfr:((t.over n m.key).uses n e).fresh n m.key=decide (((t.over n m.key).uses n e).age n e≤((t.over n m.key).uses n e).c.budget):=by
   unfold Tier.St.fresh
   rw [hen]
 rw [hfr]
 by_cases hb:((t.over n m.key).uses n e).age n e≤((t.over n m.key).uses n e).c.budget
 ·rw [if_pos hb,if_pos (decide_eq_true hb)]
 ·rw [if_neg hb,if_neg (by rw [decide_eq_false hb];decide)]
theorem better_fine {m:Mes} {base:Int} (h:CFine t n) (hb:0≤base∧base≤4398046511104) (hc:0≤(t.cac n).clock∧(t.cac n).clock≤1099511627776) (hd:0≤t.c.drift∧t.c.drift≤500000):KFine t n (t.better n m base):=by
  unfold Tier.St.better
  split
  ·next e he =>
   have hf:=h.fine e (Tier.find_mem he).1
   split
   ·exact ⟨hb,⟨hc.1,Int.le_refl _⟩,hc.2,hd⟩
   ·split
    ·exact ⟨hb,⟨hc.1,Int.le_refl _⟩,hc.2,hd⟩
    ·exact hf
  ·exact ⟨hb,⟨hc.1,Int.le_refl _⟩,hc.2,hd⟩
end
section
open Go.RowKit
open Tier (Mes Ans Conf St Kept Wtr Ftc Cac)
attribute [local go_sem ↓] Go.wp_at_zero Go.wp_at_succ
variable {own own':Own} {τ:Nat} {w w1 w2 w':World} {br:Nat} {g g':RGh} {t t':St}
theorem ranswered_none (h:RLies own τ w br g t) {n:Nat} (hf:WFine t n) (m:Mes) (hto:m.to=(n:Int)) (hfe:t.fetch n m.key=none) :
    Calls Tryz.prog 82 #[.pointer (some ⟨br,0,none⟩),mesV m] w fun r w'=>r= .returned (.tuple #[])∧RLeaves own τ w br (t.answered n m) w':=by
 have e1:t.answered n m=t:=by unfold Tier.St.answered;rw [hfe]
 rw [e1]
 have h1:idx Ftc.key m.key (t.cac n).fts=-1:=by
   rcases idx_spec Ftc.key m.key (t.cac n).fts with ⟨_,f,_,_,_,h4⟩|⟨h1,_⟩
   ·unfold Tier.St.fetch at hfe;rw [h4] at hfe;cases hfe
   ·exact h1
 have HH:=hide h
 have KF:=hide (fun (w':World) (T:Turn nO w w')=>rfetch_any ((uH HH).turn T) hf.cf.lt (Nat.le_of_lt hf.ftl) m.key)
 rw [h1] at KF
 obtain ⟨kind,frm,to_,key,serial,ver,age,pres,val⟩:=m
 dsimp only at *
 subst hto
 unfold mesV mesL
 clear h hf e1 hfe h1
 go_enter Tryz.func82,Tryz.ntmps82
 go_wp2_with fail
 generalize hW:World.alloc _ _=W0
 have T0:Turn nO w W0:=by rw [← hW];exact Turn.alloc _ _ _
 clear hW
 refine (uH KF W0 T0).mono ?_
 rintro e w1 ⟨rfl,rfl⟩
 go_wp2
 go_quiet (fail)
 generalize hV:World.drewN _ _=V
 have TV:Turn nO w V:=by rw [← hV];exact T0.sT (turn_drewN nO _ _) (fun _ _ h=>h)
 have HE:=hide ((((uH HH).turn TV).stays).trans (Step.of_turn TV))
 clear hV TV T0 KF
 go_wp2
 exact bodyPost_ret (v:= .tuple #[]) (by simp [results,Tryz.results82,go_sem]) rfl ⟨rfl,uH HE⟩
theorem ranswered_other (h:RLies own τ w br g t) {n:Nat} (hf:WFine t n) (m:Mes) (hto:m.to=(n:Int)) {f:Ftc} (hfe:t.fetch n m.key=some f) (hs:f.serial≠m.serial) :
    Calls Tryz.prog 82 #[.pointer (some ⟨br,0,none⟩),mesV m] w fun r w'=>r= .returned (.tuple #[])∧RLeaves own τ w br (t.answered n m) w':=by
 have e1:t.answered n m=t:=by unfold Tier.St.answered;rw [hfe];dsimp only;rw [if_pos hs]
 rw [e1]
 obtain ⟨i,f',h1,h2,h3,h4⟩:∃ (i:Nat) (f:Ftc),idx Ftc.key m.key (t.cac n).fts=(i:Int)∧(t.cac n).fts[i]?=some f∧f.key=m.key∧(t.cac n).fts.find? (fun e=>decide (e.key=m.key))=some f:=by
   rcases idx_spec Ftc.key m.key (t.cac n).fts with h|⟨_,h2⟩
   ·exact h
   ·unfold Tier.St.fetch at hfe;rw [h2] at hfe;cases hfe
 obtain rfl:f'=f:=by unfold Tier.St.fetch at hfe;rw [h4] at hfe;exact Option.some.inj hfe
 have HH:=hide h
 have KF:=hide (fun (w':World) (T:Turn nO w w')=>rfetch_any ((uH HH).turn T) hf.cf.lt (Nat.le_of_lt hf.ftl) m.key)
 rw [h1] at KF
 have d6:w.cell? ⟨br,6,none⟩=some (.slice (some ⟨g.bc,0,none⟩) t.caches.length t.caches.length):=cOf h.block 6
 obtain ⟨_,_,k2,_⟩:=h.cacs.at_ hf.cf.lt
 obtain ⟨fb,fc,hfv,_,_,hfc,_⟩:=rowAt (h.fts n hf.cf.lt) (fun _=>rfl) h2
 rw [hfv] at k2
 have c1:w.cell? ⟨fb,i*4+1,none⟩=some (.int .i64 f'.serial):=hfc 1 (by omega)
 have n0:(0:Int)≤(n:Int):=by omega
 have n1:(n:Int)<(t.caches.length:Int):=by have:=hf.cf.lt;omega
 have j0:(0:Int)≤(i:Int):=by omega
 have j1:(i:Int)<((t.cac n).fts.length:Int):=by have:=(List.getElem?_eq_some_iff.1 h2).1;omega
 have jn:¬ (i:Int)<0:=by omega
 have hbr:=h.lt
 obtain ⟨kind,frm,to_,key,serial,ver,age,pres,val⟩:=m
 dsimp only at *
 subst hto
 have hds:decide (f'.serial=serial)=false:=decide_eq_false hs
 have hdn:(f'.serial != serial)=true:=by simp [hs]
 unfold mesV mesL
 generalize f'.serial=fs at *
 generalize (t.cac n).fts.length=fl at *
 generalize t.caches.length=ml at *
 clear h hf e1 hfe h1 h2 h3 h4 hfv hfc
 go_enter Tryz.func82,Tryz.ntmps82
 go_wp2_with fail
 generalize hW:World.alloc _ _=W0
 have T0:Turn nO w W0:=by rw [← hW];exact Turn.alloc _ _ _
 have x4:W0.cell? ⟨w.heap.size,4,none⟩=some (.int .i64 serial):=by rw [← hW];exact cOf (new1_0 w _) 4
 clear hW
 have d6:=T0.cell d6 id
 have k2:=T0.cell k2 id
 have c1:=T0.cell c1 id
 refine (uH KF W0 T0).mono ?_
 rintro e w1 ⟨rfl,rfl⟩
 go_wp2
 go_quiet (fail)
 generalize hV:World.drewN _ _=V
 have TV:Turn nO w V:=by rw [← hV];exact T0.sT (turn_drewN nO _ _) (fun _ _ h=>h)
 have HE:=hide ((((uH HH).turn TV).stays).trans (Step.of_turn TV))
 clear hV TV T0 KF d6 k2 c1 x4
 go_wp2
 exact bodyPost_ret (v:= .tuple #[]) (by simp [results,Tryz.results82,go_sem]) rfl ⟨rfl,uH HE⟩
theorem fts_overR (t:St) (n m:Nat) (k:ByteArray):∀ f∈((t.over n k).cac m).fts,f∈(t.cac m).fts:=fun f hf=>by
  unfold Tier.St.over at hf
  rw [Tier.cac_set] at hf
  split at hf
  ·next e=>rw [e.1];exact (List.mem_filter.1 hf).1
  ·exact hf
theorem FFine.over (h:FFine t) (n:Nat) (k:ByteArray):FFine (t.over n k):=by
  have hl:(t.over n k).caches.length=t.caches.length:=Tier.length_set t n _
  refine ⟨h.pos,fun m f hm hf=>h.ser m f (hl ▸ hm) (fts_overR t n m k f hf),fun a b f f' ha hb hf hf'=>h.apart a b f f' (hl ▸ ha) (hl ▸ hb) (fts_overR t n a k f hf) (fts_overR t n b k f' hf'),fun m hm=>?_⟩
  unfold Tier.St.over
  rw [Tier.cac_set]
  split
  ·next e=>exact (h.once n e.2).sublist List.filter_sublist
  ·exact h.once m (hl ▸ hm)
theorem fts_over_len (t:St) (n:Nat) (k:ByteArray) (hn:n<t.caches.length):((t.over n k).cac n).fts.length≤(t.cac n).fts.length:=by
  rw [Tier.cac_over hn]
  exact List.length_filter_le _ _
theorem six_set {Z:World} {b:Nat} {v0 v1 v2 v3 v4 v5:Value} (h:∀ j,j<6→(Z.cell? ⟨b,j,none⟩).isSome=true) :
    ((((((Z.setCell ⟨b,0,none⟩ v0).setCell ⟨b,1,none⟩ v1).setCell ⟨b,2,none⟩ v2).setCell ⟨b,3,none⟩ v3).setCell ⟨b,4,none⟩ v4).setCell ⟨b,5,none⟩ v5).cell? ⟨b,0,none⟩=some v0 ∧
    ((((((Z.setCell ⟨b,0,none⟩ v0).setCell ⟨b,1,none⟩ v1).setCell ⟨b,2,none⟩ v2).setCell ⟨b,3,none⟩ v3).setCell ⟨b,4,none⟩ v4).setCell ⟨b,5,none⟩ v5).cell? ⟨b,1,none⟩=some v1 ∧
    ((((((Z.setCell ⟨b,0,none⟩ v0).setCell ⟨b,1,none⟩ v1).setCell ⟨b,2,none⟩ v2).setCell ⟨b,3,none⟩ v3).setCell ⟨b,4,none⟩ v4).setCell ⟨b,5,none⟩ v5).cell? ⟨b,2,none⟩=some v2 ∧
    ((((((Z.setCell ⟨b,0,none⟩ v0).setCell ⟨b,1,none⟩ v1).setCell ⟨b,2,none⟩ v2).setCell ⟨b,3,none⟩ v3).setCell ⟨b,4,none⟩ v4).setCell ⟨b,5,none⟩ v5).cell? ⟨b,3,none⟩=some v3 ∧
    ((((((Z.setCell ⟨b,0,none⟩ v0).setCell ⟨b,1,none⟩ v1).setCell ⟨b,2,none⟩ v2).setCell ⟨b,3,none⟩ v3).setCell ⟨b,4,none⟩ v4).setCell ⟨b,5,none⟩ v5).cell? ⟨b,4,none⟩=some v4 ∧
    ((((((Z.setCell ⟨b,0,none⟩ v0).setCell ⟨b,1,none⟩ v1).setCell ⟨b,2,none⟩ v2).setCell ⟨b,3,none⟩ v3).setCell ⟨b,4,none⟩ v4).setCell ⟨b,5,none⟩ v5).cell? ⟨b,5,none⟩=some v5:=by
 have h0:=h 0 (by omega)
 have h1:=h 1 (by omega)
 have h2:=h 2 (by omega)
 have h3:=h 3 (by omega)
 have h4:=h 4 (by omega)
 have h5:=h 5 (by omega)
 refine ⟨?_,?_,?_,?_,?_,?_⟩ <;> simp [go_sem,h0,h1,h2,h3,h4,h5]
structure OffB (b:Nat) (w w':World):Prop where
  off:∀ k,k≠b→w'.heap[k]?=w.heap[k]?
theorem OffB.refl (b:Nat) (w:World):OffB b w w:=⟨fun _ _=>rfl⟩
theorem OffB.set {b i:Nat} {v:Value} (h:OffB b w w'):OffB b w (w'.setCell ⟨b,i,none⟩ v):=⟨fun k hk=>(hSO hk).trans (h.off k hk)⟩
theorem OffB.cells {b k j:Nat} (h:OffB b w w') (hk:k≠b):w'.cell? ⟨k,j,none⟩=w.cell? ⟨k,j,none⟩:=World.cell?_of_block (a:=⟨k,j,none⟩) (h.off k hk)
structure AFine (t:St) (n:Nat) (m:Mes) (f:Ftc):Prop where
  wf:WFine t n
  age:0≤m.age∧m.age≤1000000000000
  clk:0≤(t.cac n).clock∧(t.cac n).clock≤1099511627776
  drift:0≤t.c.drift∧t.c.drift≤500000
  sent:0≤f.sent∧f.sent≤(t.cac n).clock
  net:t.net.length≤900000000000
  ans:t.answers.length≤900000000000
  kind:m.kind=2∨m.kind=3∨m.kind=4
theorem ranswered_some (h:RLies own τ w br g t) {n:Nat} (m:Mes) (hto:m.to=(n:Int)) {f:Ftc} (hf:AFine t n m f) (hfe:t.fetch n m.key=some f) (hs:f.serial=m.serial) :
    Calls Tryz.prog 82 #[.pointer (some ⟨br,0,none⟩),mesV m] w fun r w'=>r= .returned (.tuple #[])∧RLeaves own τ w br (t.answered n m) w':=by
 obtain ⟨i,f',h1,h2,h3,h4⟩:∃ (i:Nat) (f:Ftc),idx Ftc.key m.key (t.cac n).fts=(i:Int)∧(t.cac n).fts[i]?=some f∧f.key=m.key∧(t.cac n).fts.find? (fun e=>decide (e.key=m.key))=some f:=by
   rcases idx_spec Ftc.key m.key (t.cac n).fts with h|⟨_,h2⟩
   ·exact h
   ·unfold Tier.St.fetch at hfe;rw [h2] at hfe;cases hfe
 obtain rfl:f'=f:=by unfold Tier.St.fetch at hfe;rw [h4] at hfe;exact Option.some.inj hfe
 have hfm:=List.mem_of_getElem? h2
 have HH:=hide h
 have HF:=hide hf
 have KF:=hide (fun (w':World) (T:Turn nO w w')=>rfetch_any ((uH HH).turn T) hf.wf.cf.lt (Nat.le_of_lt hf.wf.ftl) m.key)
 rw [h1] at KF
 have KL:=hide (fun (w':World) (T:Turn nO w w')=>relapsed_any ((uH HH).turn T) hf.drift ((t.cac n).clock - f'.sent) (by have:=hf.sent;omega) (by have:=hf.sent;have:=hf.clk;omega))
 have KO:=hide (fun (w':World) (T:Turn nO w w')=>rover_any ((uH HH).turn T) hf.wf.ff hf.wf.cf.lt (k:=m.key) h2 (fun f' hf'=>⟨fun hk'=>hf.wf.uniq f' _ hf' hfm (hk'.trans h3.symm),fun e=>by rw [e];exact h3⟩) (Nat.le_of_lt hf.wf.ftl))
 have KE:Hid (∀ (o:Own) (g1:RGh) (w':World),RLies o τ w' br g1 (t.over n m.key)→Calls Tryz.prog 109 #[.pointer (some ⟨br,0,none⟩),.int .i64 (n:Int),.string m.key] w' fun e w''=>e= .returned (.int .i64 (idx Kept.key m.key (t.cac n).ents))∧w''=w'):=fun o g1 w' R=>by
   have:=rentry_any R (hf.wf.cf.over m.key).lt (hf.wf.cf.over m.key).len m.key
   rw [ents_over] at this
   exact this
 have d6:w.cell? ⟨br,6,none⟩=some (.slice (some ⟨g.bc,0,none⟩) t.caches.length t.caches.length):=cOf h.block 6
 obtain ⟨k0,_,k2,_⟩:=h.cacs.at_ hf.wf.cf.lt
 obtain ⟨fb,fc,hfv,_,_,hfc,_⟩:=rowAt (h.fts n hf.wf.cf.lt) (fun _=>rfl) h2
 rw [hfv] at k2
 have c1:w.cell? ⟨fb,i*4+1,none⟩=some (.int .i64 f'.serial):=hfc 1 (by omega)
 have c2:w.cell? ⟨fb,i*4+2,none⟩=some (.int .i64 f'.sent):=hfc 2 (by omega)
 have n0:(0:Int)≤(n:Int):=by omega
 have n1:(n:Int)<(t.caches.length:Int):=by have:=hf.wf.cf.lt;omega
 have j0:(0:Int)≤(i:Int):=by omega
 have j1:(i:Int)<((t.cac n).fts.length:Int):=by have:=(List.getElem?_eq_some_iff.1 h2).1;omega
 have hbr:=h.lt
 have HTOP:=hide h.top
 have HLL:Hid (f'.l.length<1000000):=hf.wf.wl f' hfm
 have hel:=elap_le (drift:=t.c.drift) (d:=(t.cac n).clock - f'.sent) (by have:=hf.sent;omega) (by have:=hf.sent;have:=hf.clk;omega) hf.drift.1 hf.drift.2
 rw [← elap_same] at hel
 have HBASE:Hid (0≤m.age+Tier.elapsed t.c.drift ((t.cac n).clock - f'.sent)∧m.age+Tier.elapsed t.c.drift ((t.cac n).clock - f'.sent)≤4398046511104):=by have:=hf.age;show _∧_;omega
 have hw1:IntKind.i64.wrap ((t.cac n).clock - f'.sent)=(t.cac n).clock - f'.sent:=by rw [IntKind.wrap_i64];have:=hf.sent;have:=hf.clk;omega
 have hw2:IntKind.i64.wrap (m.age+Tier.elapsed t.c.drift ((t.cac n).clock - f'.sent))=m.age+Tier.elapsed t.c.drift ((t.cac n).clock - f'.sent):=by rw [IntKind.wrap_i64];have:=uH HBASE;omega
 have HFE:=hide hfe
 have HMM:Hid (m.serial=f'.serial):=hs.symm
 generalize hmm:m=mm at *
 obtain ⟨kind,frm,to_,key,serial,ver,age,pres,val⟩:=m
 subst hmm
 dsimp only at *
 subst hto
 subst hs
 unfold mesV mesL
 generalize hel2:Tier.elapsed t.c.drift ((t.cac n).clock - f'.sent)=el at *
 generalize hck:(t.cac n).clock=ck at *
 generalize hfl:(t.cac n).fts.length=fl at *
 generalize hml:t.caches.length=ml at *
 have HCK:=hide hck
 have HEL:=hide hel2
 clear h hf hfe h1 h2 h3 h4 hfv hfc hck hfl hml hel2 hfm hel
 go_enter Tryz.func82,Tryz.ntmps82
 go_wp2_with fail
 generalize hW:World.alloc _ _=W0
 have T0:Turn nO w W0:=by rw [← hW];exact (Turn.alloc _ _ _)
 have hsz:W0.heap.size=w.heap.size+1:=by rw [← hW];simp
 have x0:∃ ty,W0.heap[w.heap.size]?=some (.cells #[.int .i64 kind,.int .i64 frm,.int .i64 (n:Int),.string key,.int .i64 f'.serial,.int .i64 ver,.int .i64 age,.int .i64 pres,.string val] ty (0,0)):=by rw [← hW];exact ⟨_,new1_0 _ _⟩
 obtain ⟨x0_0,x0_1,x0_2,x0_3,x0_4,x0_5,x0_6,x0_7,x0_8⟩:=eC9 x0
 clear hW x0
 have d6:=T0.cell d6 id
 have k0:=T0.cell k0 id
 have k2:=T0.cell k2 id
 have c1:=T0.cell c1 id
 have c2:=T0.cell c2 id
 refine (uH KF W0 T0).mono ?_
 rintro e w1 ⟨rfl,rfl⟩
 clear KF
 go_wp2
 go_quiet (fail)
 generalize hV:World.drewN _ _=V1
 have TV:Turn nO w1 V1:=by rw [← hV];exact turn_drewN nO _ _
 have d6:=TV.cell d6 id
 have k0:=TV.cell k0 id
 have k2:=TV.cell k2 id
 have c2:=TV.cell c2 id
 have x0_0:=TV.cell x0_0 id
 have x0_1:=TV.cell x0_1 id
 have x0_2:=TV.cell x0_2 id
 have x0_3:=TV.cell x0_3 id
 have x0_4:=TV.cell x0_4 id
 have x0_5:=TV.cell x0_5 id
 have x0_6:=TV.cell x0_6 id
 have x0_7:=TV.cell x0_7 id
 have x0_8:=TV.cell x0_8 id
 have TV1:=T0.sT TV (fun _ _ h=>h)
 have HTV:=hide TV1
 clear hV c1 T0 TV
 go_wp2
 have HS:=fun w' (T:Turn nO V1 w')=>And.intro T (And.intro (T.cell d6 id) (And.intro (T.cell k2 id) (And.intro (T.cell c2 id) (And.intro (T.cell x0_0 id) (And.intro (T.cell x0_1 id) (And.intro (T.cell x0_2 id) (And.intro (T.cell x0_3 id) (And.intro (T.cell x0_4 id) (And.intro (T.cell x0_5 id) (And.intro (T.cell x0_6 id) (And.intro (T.cell x0_7 id) (T.cell x0_8 id))))))))))))
 go_region_held3 (fun w'=>Turn nO V1 w'∧w'.cell? ⟨br,6,none⟩=some (.slice (some ⟨g.bc,0,none⟩) ml ml)∧w'.cell? ⟨g.bc,n*3+2,none⟩=some (.slice (some ⟨fb,0,none⟩) fl fc)∧w'.cell? ⟨fb,i*4+2,none⟩=some (.int .i64 f'.sent)∧w'.cell? ⟨w.heap.size,0,none⟩=some (.int .i64 kind)∧w'.cell? ⟨w.heap.size,1,none⟩=some (.int .i64 frm)∧w'.cell? ⟨w.heap.size,2,none⟩=some (.int .i64 (n:Int))∧w'.cell? ⟨w.heap.size,3,none⟩=some (.string key)∧w'.cell? ⟨w.heap.size,4,none⟩=some (.int .i64 f'.serial)∧w'.cell? ⟨w.heap.size,5,none⟩=some (.int .i64 ver)∧w'.cell? ⟨w.heap.size,6,none⟩=some (.int .i64 age)∧w'.cell? ⟨w.heap.size,7,none⟩=some (.int .i64 pres)∧w'.cell? ⟨w.heap.size,8,none⟩=some (.string val)) ((go_split_ands;apply HS;all_goals (repeat (first|(with_reducible first|assumption|exact Turn.refl _ _|apply Turn.sA|apply Turn.sD|refine tN ?_ (by assumption))|((with_reducible refine Turn.sS ?_ ?_);rotate_left;· first|exact Or.inr rfl|exact Or.inr (Or.inl rfl)|exact Or.inl (by simp <;> omega))|(with_reducible refine tG ?_ (by assumption))|(with_reducible first|apply There.drew|apply There.set|refine hNo ?_ (by assumption))|assumption)))) (first|(go_at_call 99;go_split_ands;refine (uH KL _ (TV1.sT (by assumption) (fun _ _ h=>h))).mono ?_;rintro e w' ⟨rfl,rfl⟩))
 go_split_ands
 clear HS
 have TD:Turn nO w V1.drew:=(uH HTV).sD
 have KO2:=hide (uH KO _ TD)
 have HTD:=hide TD
 clear KO KL TD TV1 d6 k0 k2 c2
 go_wp2_with fail
 refine (uH KO2).mono ?_
 rintro e w3 ⟨la,lc,rfl,RO⟩
 have ow:own w.heap.size=none:=uH HTOP _ (Nat.le_refl _)
 obtain ⟨o3,g3,R3,S3,L3⟩:=RO.is
 have x0_0:=S3.cell ((Turn.drew nO V1).cell x0_0 id) ow
 have x0_1:=S3.cell ((Turn.drew nO V1).cell x0_1 id) ow
 have x0_2:=S3.cell ((Turn.drew nO V1).cell x0_2 id) ow
 have x0_3:=S3.cell ((Turn.drew nO V1).cell x0_3 id) ow
 have x0_4:=S3.cell ((Turn.drew nO V1).cell x0_4 id) ow
 have x0_5:=S3.cell ((Turn.drew nO V1).cell x0_5 id) ow
 have x0_6:=S3.cell ((Turn.drew nO V1).cell x0_6 id) ow
 have x0_7:=S3.cell ((Turn.drew nO V1).cell x0_7 id) ow
 have x0_8:=S3.cell ((Turn.drew nO V1).cell x0_8 id) ow
 have o3w:o3 w.heap.size=none:=S3.free (cell_lt ((Turn.drew nO V1).cell (by assumption) id)) ow
 have HS3:Hid (Step τ own o3 w w3):=(Step.of_turn (uH HTD)).trans S3
 have HR3:=hide R3
 have HL3:=hide L3
 have hbr3:br<w3.heap.size:=R3.lt
 have KE2:=hide (uH KE o3 g3 w3 R3)
 clear KO2 RO R3 S3 L3 HTD KE ow
 go_wp2_with fail
 refine (uH KE2).mono ?_
 rintro e w4 ⟨rfl,rfl⟩
 clear KE2
 have w4w:w.heap.size<w4.heap.size:=cell_lt x0_3
 by_cases hk4:kind=4
 ·subst hk4
  have HANS:=hide (tAnswered_refuse (m:=⟨4,frm,(n:Int),key,f'.serial,ver,age,pres,val⟩) (uH HFE) rfl rfl)
  dsimp only at HANS
  obtain ⟨R5,S5,L5⟩:=(uH HR3).loosen (uH HL3)
  have o5w:dropO o3 (τ,7) w.heap.size=none:=S5.free w4w o3w
  have HS5:Hid (Step τ own (dropO o3 (τ,7)) w w4):=(uH HS3).trans S5
  have HW0:Hid (WLoop (dropO o3 (τ,7)) τ w4 w4 br ((t.over n key).refuseAll n key (f'.l.take 0)) f'.l (.slice la f'.l.length lc)):=⟨_,_,R5,Step.refl _ _ _,L5⟩
  have HLN:Hid ((t.over n key).net.length≤900000000000∧(t.over n key).answers.length≤900000000000):=⟨(uH HF).net,(uH HF).ans⟩
  have HRL:=hide (fun j x=>refuseAll_snoc (t.over n key) n key f'.l j x)
  have HRN:=hide (fun j=>refuseAll_len n key (f'.l.take j) (t.over n key))
  generalize dropO o3 (τ,7)=o5 at *
  generalize t.over n key=to_ at *
  generalize f'.l=l at *
  clear HR3 HL3 HS3 R5 S5 L5 x0_1 x0_2 x0_4 x0_5 x0_6 x0_7 x0_8 o3w hw1 hw2 HBASE HF HH HFE HCK HEL
  generalize hN:l.length=N at *
  go_wp2
  go_loopw [10] (fun i wr=>∃ j:Nat,j≤N∧i= .int .i64 (j:Int)∧Hid (WLoop o5 τ w4 wr br (to_.refuseAll n key (l.take j)) l (.slice la N lc))) (fun i _=>N - (intOf i).toNat)
  case atStart=>exact ⟨0,Nat.zero_le _,rfl,HW0⟩
  case round =>
    clear HW0
    obtain ⟨j,jN,rfl,HW⟩:=hrel
    have hjw:IntKind.i64.wrap ((j:Int)+1)=(j:Int)+1:=by rw [IntKind.wrap_i64];have:=uH HLL;omega
    by_cases hlt:j<N
    ·obtain ⟨x,hx⟩:∃ x,l[j]?=some x:=⟨_,List.getElem?_eq_getElem (by omega)⟩
     obtain ⟨o,g1,R,S,L⟩:=(uH HW).is
     obtain ⟨b,c',ev,hbo,_,hcl⟩:=looseAt L (fun _=>rfl) hx
     rw [hN] at ev
     cases ev
     obtain ⟨c0,c1,c2,c3⟩:=rC4 hcl
     have b3:=S.cell x0_3 o5w
     have nb0:¬ Mine o τ w.heap.size:=fun ⟨y,hy⟩=>by rw [S.free w4w o5w] at hy;cases hy
     have nb1:¬ Mine o τ b:=fun ⟨y,hy⟩=>by rw [hbo] at hy;cases hy
     have J0:(0:Int)≤(j:Int):=by omega
     have J1:(j:Int)<(N:Int):=by omega
     have hln:=uH HRN j
     rw [List.length_take] at hln
     have TD:=Turn.drew nO wr
     have KR:=hide (rrefused_any (R.turn TD) (by have:=(uH HLN).1;have:=uH HLL;omega) (by have:=(uH HLN).2;have:=uH HLL;omega) n key x)
     rw [← uH HRL j x hx] at KR
     have HNX:=hide (fun wx (R':RLeaves o τ wr.drew br (to_.refuseAll n key (l.take (j+1))) wx)=>WLoop.next o (S.trans (Step.of_turn TD)) (L.step (Step.of_turn (τ:=τ) TD)) R')
     obtain ⟨xn,xi,xs,xt⟩:=x
     unfold wtrV wtrL at KR
     dsimp only at *
     clear R S L hcl hx hln HW TD
     go_wp2
     have HS:=fun w' (T:Turn (Mine o τ) wr w')=>And.intro T (And.intro (T.cell b3 (by first|exact nb0|exact nb1)) (And.intro (T.cell c0 (by first|exact nb0|exact nb1)) (And.intro (T.cell c1 (by first|exact nb0|exact nb1)) (And.intro (T.cell c2 (by first|exact nb0|exact nb1)) (T.cell c3 (by first|exact nb0|exact nb1))))))
     go_region_held3 (fun w'=>Turn (Mine o τ) wr w'∧w'.cell? ⟨w.heap.size,3,none⟩=some (.string key)∧w'.cell? ⟨b,j*4,none⟩=some (.int .i64 xn)∧w'.cell? ⟨b,j*4+1,none⟩=some (.int .i64 xi)∧w'.cell? ⟨b,j*4+2,none⟩=some (.int .i64 xs)∧w'.cell? ⟨b,j*4+3,none⟩=some (.int .i64 xt)) ((go_split_ands;apply HS;all_goals (repeat (first|(with_reducible first|assumption|exact Turn.refl _ _|apply Turn.sA|apply Turn.sD|refine tN ?_ (by assumption))|((with_reducible refine Turn.sS ?_ ?_);rotate_left;· first|exact Or.inr rfl|exact Or.inr (Or.inl rfl)|exact Or.inl (by simp <;> omega))|(with_reducible refine tG ?_ (by assumption))|(with_reducible first|apply There.drew|apply There.set|refine hNo ?_ (by assumption))|assumption)))) (first|(go_at_call 87;go_split_ands;refine (uH KR).mono ?_;rintro e w8 ⟨rfl,R8⟩;have TF:Turn (Mine o τ) wr w8:=(Turn.drew _ wr).sT (by obtain ⟨_,_,_,S8⟩:=R8.is;exact S8.turn) (fun _ _ h=>h)))
     go_split_ands
     clear HS
     have HW':=hide (uH HNX _ R8)
     clear R8 HNX KR c0 c1 c2 c3 b3 TF
     go_wp2
     go_roundw
     case rel=>exact ⟨j+1,by omega,by go_num,HW'⟩
     case measure=>simp [intOf];omega
    ·have j1:¬ (j:Int)<(N:Int):=by omega
     have hall:l.take j=l:=List.take_of_length_le (by omega)
     have HE:Hid (RLeaves own τ w br (t.answered n ⟨4,frm,(n:Int),key,f'.serial,ver,age,pres,val⟩) wr):=by
       have h1:=(uH HW).leaves
       rw [hall] at h1
       show RLeaves own τ w br _ wr
       rw [uH HANS]
       exact h1.trans (uH HS5)
     clear HW hall HANS
     go_wp2
     exact bodyPost_ret (v:= .tuple #[]) (by simp [results,Tryz.results82,go_sem]) rfl ⟨rfl,uH HE⟩
 ·have hd4:decide (kind=4)=false:=decide_eq_false hk4
  have hoc:(t.over n key).caches.length=t.caches.length:=Tier.length_set t n _
  have d6:w4.cell? ⟨br,6,none⟩=some (.slice (some ⟨g3.bc,0,none⟩) t.caches.length t.caches.length):=by rw [← hoc];exact cOf (uH HR3).block 6
  have hnl:n<(t.over n key).caches.length:=by rw [hoc];exact (uH HF).wf.cf.lt
  obtain ⟨_,k1,_,_⟩:=(uH HR3).cacs.at_ hnl
  have nl1:(n:Int)<(t.caches.length:Int):=by have:=(uH HF).wf.cf.lt;omega
  by_cases hag:kind=3∧∀ e,t.entry n key=some e→e.ver≠ver
  ·obtain ⟨hk3,hne⟩:=hag
   subst hk3
   have HANS:=hide (tAnswered_again (m:=⟨3,frm,(n:Int),key,f'.serial,ver,age,pres,val⟩) (uH HFE) rfl rfl hne)
   dsimp only at HANS
   have KS:=hide (fun (w':World) (T:Turn nO w4 w')=>rsends_any ((uH HR3).turn T) ((uH HF).wf.ff.over n key) hnl (by rw [hoc];exact (uH HF).wf.par) (uH HF).wf.ser (uH HF).wf.net (Nat.lt_of_le_of_lt (fts_over_len t n key (uH HF).wf.cf.lt) (uH HF).wf.ftl) key (-1) f'.l (.slice la f'.l.length lc) ((uH HL3).frame (fun q hq _=>⟨T.block q hq id,rfl⟩)))
   have HFIN:Hid (∀ V w',Turn nO w4 V→RLeaves o3 τ V br ((t.over n key).sends n key (-1) f'.l) w'→RLeaves own τ w br (t.answered n ⟨3,frm,(n:Int),key,f'.serial,ver,age,pres,val⟩) w'):=fun V w' T R=>by rw [uH HANS];exact R.trans ((uH HS3).trans (Step.of_turn T))
   rcases idx_spec Kept.key key (t.cac n).ents with ⟨ei,e,e1,e2,e3,e4⟩|⟨e1,e2⟩
   ·rw [e1]
    have e2':((t.over n key).cac n).ents[ei]?=some e:=by rw [ents_over];exact e2
    obtain ⟨eb,ec,hev,_,_,hec,_⟩:=rowAt ((uH HR3).ents n hnl) (fun _=>rfl) e2'
    rw [hev] at k1
    have c1:w4.cell? ⟨eb,ei*6+1,none⟩=some (.int .i64 e.ver):=hec 1 (by omega)
    have hvne:e.ver≠ver:=hne e e4
    have hvb:(e.ver != ver)=true:=by simp [hvne]
    have m0:(0:Int)≤(ei:Int):=by omega
    have m1:(ei:Int)<(((t.over n key).cac n).ents.length:Int):=by have:=(List.getElem?_eq_some_iff.1 e2').1;omega
    have mn:¬ (ei:Int)<0:=by omega
    generalize ((t.over n key).cac n).ents.length=el2 at *
    generalize e.ver=ev at *
    generalize t.caches.length=ml2 at *
    clear HR3 HL3 HS3 HANS hne e1 e2 e3 e4 e2' hev hec HF HH HFE
    go_wp2
    go_quiet (fail)
    generalize hV:World.drewN w4 _=V5
    have TV5:Turn nO w4 V5:=by rw [← hV];exact turn_drewN nO _ _
    have b3:=TV5.cell x0_3 id
    have KS2:=hide (uH KS V5 TV5)
    have HT5:=hide TV5
    clear hV KS TV5 d6 k1 c1
    go_wp2_with fail
    refine (uH KS2).mono ?_
    rintro e w6 ⟨rfl,R6⟩
    have HE:=hide (uH HFIN V5 w6 (uH HT5) R6)
    clear R6 KS2 HFIN
    go_wp2
    exact bodyPost_ret (v:= .tuple #[]) (by simp [results,Tryz.results82,go_sem]) rfl ⟨rfl,uH HE⟩
   ·rw [e1]
    generalize t.caches.length=ml2 at *
    clear HR3 HL3 HS3 HANS hne e1 e2 HF HH HFE
    go_wp2
    go_quiet (fail)
    generalize hV:World.drewN w4 _=V5
    have TV5:Turn nO w4 V5:=by rw [← hV];exact turn_drewN nO _ _
    have b3:=TV5.cell x0_3 id
    have KS2:=hide (uH KS V5 TV5)
    have HT5:=hide TV5
    clear hV KS TV5 d6 k1
    go_wp2_with fail
    refine (uH KS2).mono ?_
    rintro e w6 ⟨rfl,R6⟩
    have HE:=hide (uH HFIN V5 w6 (uH HT5) R6)
    clear R6 KS2 HFIN
    go_wp2
    exact bodyPost_ret (v:= .tuple #[]) (by simp [results,Tryz.results82,go_sem]) rfl ⟨rfl,uH HE⟩
  ·obtain ⟨R5,S5,L5⟩:=(uH HR3).loosen (uH HL3)
   have o5w:dropO o3 (τ,7) w.heap.size=none:=S5.free w4w o3w
   have HS5:Hid (Step τ own (dropO o3 (τ,7)) w w4):=(uH HS3).trans S5
   have HR5:=hide R5
   have HL5:=hide L5
   have HFF:=uH HF
   have HANS:=hide (answered_taken (m:=⟨kind,frm,(n:Int),key,f'.serial,ver,age,pres,val⟩) (uH HFE) rfl hk4 hag HFF.wf.cf.lt HFF.wf.cf.room.1)
   dsimp only at HANS
   rw [uH HCK,uH HEL] at HANS
   have hck:0≤(t.cac n).clock∧(t.cac n).clock≤1099511627776:=by have:=HFF.clk;rw [uH HCK] at this;rw [uH HCK];exact this
   have HBF:Hid (KFine t n (t.better n ⟨kind,frm,(n:Int),key,f'.serial,ver,age,pres,val⟩ (age+el))):=better_fine HFF.wf.cf (uH HBASE) hck HFF.drift
   have HBK:Hid ((t.better n ⟨kind,frm,(n:Int),key,f'.serial,ver,age,pres,val⟩ (age+el)).key=key):=Tier.better_key _ _ _ _
   have HBE:Hid ((t.entry n key=none→t.better n ⟨kind,frm,(n:Int),key,f'.serial,ver,age,pres,val⟩ (age+el)=⟨key,ver,pres,val,age+el,ck⟩)∧∀ e,t.entry n key=some e→t.better n ⟨kind,frm,(n:Int),key,f'.serial,ver,age,pres,val⟩ (age+el)=if e.ver<ver then ⟨key,ver,pres,val,age+el,ck⟩ else if e.ver=ver∧age+el≤t.age n e then { e with base:=age+el,since:=ck } else e):=by
     refine ⟨fun h=>?_,fun e h=>?_⟩
     ·unfold Tier.St.better
      dsimp only
      rw [h,uH HCK]
     ·unfold Tier.St.better
      dsimp only
      rw [h,uH HCK]
   have HAGE:Hid (∀ e,(t.over n key).age n e=t.age n e):=fun e=>by unfold Tier.St.age;rw [Tier.clock_over];rfl
   have KA:=hide (fun (w':World) (T:Turn nO w4 w') (e:Kept) (he:e∈(t.cac n).ents)=>rage_any ((uH HR5).turn T) hnl e ((HFF.wf.cf.fine e he).over key))
   have HAB:=hide (fun (e:Kept) (he:e∈(t.cac n).ents)=>(HFF.wf.cf.fine e he).age)
   generalize hB:t.better n ⟨kind,frm,(n:Int),key,f'.serial,ver,age,pres,val⟩ (age+el)=B at *
   have HU:=hide ((HFF.wf.cf.over key).uses ((uH HBF).over key))
   have KU:=hide (fun (w':World) (T:Turn nO w4 w')=>ruses_any ((uH HR5).turn T) hnl (HFF.wf.cf.over key).len (HFF.wf.cf.over key).room B)
   have HUE:Hid (((t.over n key).uses n B).entry n key=some B):=by have:=Tier.entry_uses (e:=B) hnl HFF.wf.cf.room.1;rw [uH HBK] at this;exact this
   have HULN:Hid (((t.over n key).uses n B).net.length≤900000000000∧((t.over n key).uses n B).answers.length≤900000000000):=⟨HFF.net,HFF.ans⟩
   have HTOK:Hid (TellOK ((t.over n key).uses n B) n key B 0):=⟨uH HU,uH HUE,((uH HBF).over key).uses B,(uH HULN).1,(uH HULN).2⟩
   have HCASE:Hid ((idx Kept.key key (t.cac n).ents=-1∧t.entry n key=none∧kind≠3)∨∃ (ei:Nat) (e:Kept) (eb ec:Nat),idx Kept.key key (t.cac n).ents=(ei:Int)∧ei<((t.over n key).cac n).ents.length∧e∈(t.cac n).ents∧t.entry n key=some e∧(kind=3→e.ver=ver)∧g3.ev n= .slice (some ⟨eb,0,none⟩) ((t.over n key).cac n).ents.length ec ∧
       w4.cell? ⟨eb,ei*6,none⟩=some (.string e.key)∧w4.cell? ⟨eb,ei*6+1,none⟩=some (.int .i64 e.ver)∧w4.cell? ⟨eb,ei*6+2,none⟩=some (.int .i64 e.pres)∧w4.cell? ⟨eb,ei*6+3,none⟩=some (.string e.val)∧w4.cell? ⟨eb,ei*6+4,none⟩=some (.int .i64 e.base)∧w4.cell? ⟨eb,ei*6+5,none⟩=some (.int .i64 e.since)):=by
    rcases idx_spec Kept.key key (t.cac n).ents with ⟨ei,e,e1,e2,e3,e4⟩|⟨e1,e2⟩
    ·have e2':((t.over n key).cac n).ents[ei]?=some e:=by rw [ents_over];exact e2
     obtain ⟨eb,ec,hev,_,_,hec,_⟩:=rowAt ((uH HR3).ents n hnl) (fun _=>rfl) e2'
     refine Or.inr ⟨ei,e,eb,ec,e1,(List.getElem?_eq_some_iff.1 e2').1,List.mem_of_getElem? e2,e4,fun hk3=>?_,hev,hec 0 (by omega),hec 1 (by omega),hec 2 (by omega),hec 3 (by omega),hec 4 (by omega),hec 5 (by omega)⟩
     refine Classical.byContradiction fun hne=>hag ⟨hk3,fun e' he'=>?_⟩
     have:e'=e:=Option.some.inj (he'.symm.trans e4)
     rw [this];exact hne
    ·refine Or.inl ⟨e1,e2,fun hk3=>hag ⟨hk3,fun e' he'=>?_⟩⟩
     rw [show t.entry n key=none from e2] at he';cases he'
   have HKD:Hid (kind=2∨kind=3∨kind=4):=HFF.kind
   generalize dropO o3 (τ,7)=o5 at *
   generalize ((t.over n key).cac n).ents.length=oel at *
   generalize t.caches.length=ml2 at *
   have w5:IntKind.i64.wrap (age+el)=age+el:=hw2
   clear HR3 HL3 HS3 R5 S5 L5 hag HFF hck HF HH HFE hB o3w hw1
   generalize hki:idx Kept.key key (t.cac n).ents=ki at *
   clear hki
   have hkb4:(kind == 4)=false:=by simp [hk4]
   have HX3:=hide x0_3
   go_upto_region 13 with fail
   go_cut [120] from 96 to 120 (fun c wx=>c= .bool false∧Hid (Turn nO w4 wx))
   case first =>
     rcases uH HCASE with ⟨q1,q2,q3⟩|⟨ei,e,eb,ec,q1,q2,q3,q4,q5,q6,c0,c1,c2,c3,c4,c5⟩
     ·subst q1
      obtain rfl:kind=2:=by have:=uH HKD;omega
      clear HCASE q2 HBE KA hd4 hk4 q3 hkb4
      go_wp2
      go_quiet (fail)
      generalize hV:World.drewN w4 _=VV
      have HE:Hid (Turn nO w4 VV):=by rw [← hV];exact turn_drewN nO _ _
      clear hV
      go_wp2
      go_meet
      exact ⟨rfl,HE⟩
     ·subst q1
      rw [q6] at k1
      have m0:(0:Int)≤(ei:Int):=by omega
      have m1:(ei:Int)<(oel:Int):=by omega
      have mn:¬ (ei:Int)<0:=by omega
      obtain ⟨ek,ev,ep,ex,eb0,es⟩:=e
      dsimp only at *
      clear HCASE q2 HBE KA hd4 q3 q4 q6 HAB HAGE
      rcases uH HKD with hk|hk|hk
      ·subst hk
       clear q5 hk4 hkb4
       go_wp2
       go_quiet (fail)
       generalize hV:World.drewN w4 _=VV
       have HE:Hid (Turn nO w4 VV):=by rw [← hV];exact turn_drewN nO _ _
       clear hV
       go_wp2
       go_meet
       exact ⟨rfl,HE⟩
      ·subst hk
       have hv:=q5 rfl
       subst hv
       clear q5 hk4 hkb4
       go_wp2
       go_quiet (fail)
       generalize hV:World.drewN w4 _=VV
       have HE:Hid (Turn nO w4 VV):=by rw [← hV];exact turn_drewN nO _ _
       clear hV
       go_wp2
       go_meet
       exact ⟨rfl,HE⟩
      ·exact absurd hk hk4
   case rest =>
     obtain ⟨rfl,hcut⟩:=hcut
     rename World=>V5
     have HT5:Hid (Turn nO w4 V5):=hcut
     have x0_3:=(uH HT5).cell x0_3 id
     have b5:=(uH HT5).cell x0_5 id
     have b7:=(uH HT5).cell x0_7 id
     have b8:=(uH HT5).cell x0_8 id
     have d65:=(uH HT5).cell d6 id
     have k15:=(uH HT5).cell k1 id
     clear x0_0 x0_1 x0_2 x0_4 x0_5 x0_6 x0_7 x0_8 hd4 hk4 d6 k1 hkb4
     go_upto_region 16 with fail
     generalize hX:World.alloc V5 _=X6
     have z0:X6.cell? ⟨V5.heap.size,0,none⟩=some (.string key):=by rw [← hX];exact cOf (new1_0 V5 _) 0
     have y0:X6.frozen? ⟨V5.heap.size,0,none⟩=false:=by rw [← hX];exact fOf (new1_0 V5 _) 0
     have z1:X6.cell? ⟨V5.heap.size,1,none⟩=some (.int .i64 ver):=by rw [← hX];exact cOf (new1_0 V5 _) 1
     have y1:X6.frozen? ⟨V5.heap.size,1,none⟩=false:=by rw [← hX];exact fOf (new1_0 V5 _) 1
     have z2:X6.cell? ⟨V5.heap.size,2,none⟩=some (.int .i64 pres):=by rw [← hX];exact cOf (new1_0 V5 _) 2
     have y2:X6.frozen? ⟨V5.heap.size,2,none⟩=false:=by rw [← hX];exact fOf (new1_0 V5 _) 2
     have z3:X6.cell? ⟨V5.heap.size,3,none⟩=some (.string val):=by rw [← hX];exact cOf (new1_0 V5 _) 3
     have y3:X6.frozen? ⟨V5.heap.size,3,none⟩=false:=by rw [← hX];exact fOf (new1_0 V5 _) 3
     have z4:X6.cell? ⟨V5.heap.size,4,none⟩=some (.int .i64 (age+el)):=by rw [← hX];exact cOf (new1_0 V5 _) 4
     have y4:X6.frozen? ⟨V5.heap.size,4,none⟩=false:=by rw [← hX];exact fOf (new1_0 V5 _) 4
     have z5:X6.cell? ⟨V5.heap.size,5,none⟩=some (.int .i64 ck):=by rw [← hX];exact cOf (new1_0 V5 _) 5
     have y5:X6.frozen? ⟨V5.heap.size,5,none⟩=false:=by rw [← hX];exact fOf (new1_0 V5 _) 5
     have HX6:Hid (Turn nO w4 X6):=by show Turn nO w4 X6;rw [← hX];exact (uH HT5).sA
     have TX6:Turn nO V5 X6:=by rw [← hX];exact Turn.alloc _ _ _
     have x3:=TX6.cell x0_3 id
     have b5:=TX6.cell b5 id
     have d65:=TX6.cell d65 id
     have k15:=TX6.cell k15 id
     have h45:w4.heap.size≤V5.heap.size:=(uH HT5).size
     have h56:V5.heap.size<X6.heap.size:=cell_lt z0
     clear hX b7 b8 x0_3 TX6
     obtain ⟨CB,hCB⟩:∃ CB:Bool,CB=(match t.entry n key with|some e=>decide (ver≤e.ver)|none=>false):=⟨_,rfl⟩
     have HCB:=hide hCB
     clear hCB
     go_cut [158] from 139 to 158 (fun c wx=>c= .bool CB∧Hid (Turn nO X6 wx))
     case first =>
       rcases uH HCASE with ⟨q1,q2,q3⟩|⟨ei,e,eb,ec,q1,q2,q3,q4,q5,q6,c0,c1,c2,c3,c4,c5⟩
       ·subst q1
        have hcb:CB=false:=by rw [uH HCB,q2]
        subst hcb
        clear HCASE q2 HBE KA q3 HCB
        go_wp2
        go_quiet (fail)
        generalize hV:World.drewN X6 _=VV
        have HE:Hid (Turn nO X6 VV):=by rw [← hV];exact turn_drewN nO _ _
        clear hV
        go_wp2
        go_meet
        exact ⟨rfl,HE⟩
       ·subst q1
        have hcb:=uH HCB
        rw [q4] at hcb
        rw [q6] at k15
        have m0:(0:Int)≤(ei:Int):=by omega
        have m1:(ei:Int)<(oel:Int):=by omega
        have c1:=(uH HX6).cell c1 id
        obtain ⟨ek,ev,ep,ex,eb0,es⟩:=e
        dsimp only at *
        clear HCASE q2 HBE KA q3 q4 q5 q6 HAB HAGE HCB
        by_cases hge:ver≤ev
        ·rw [decide_eq_true hge] at hcb
         subst hcb
         go_wp2
         go_quiet (fail)
         generalize hV:World.drewN X6 _=VV
         have HE:Hid (Turn nO X6 VV):=by rw [← hV];exact turn_drewN nO _ _
         clear hV
         go_wp2
         go_meet
         exact ⟨rfl,HE⟩
        ·rw [decide_eq_false hge] at hcb
         subst hcb
         have hdg:decide (ver≤ev)=false:=decide_eq_false hge
         have hlg:ev<ver:=by omega
         go_wp2
         go_quiet (fail)
         generalize hV:World.drewN X6 _=VV
         have HE:Hid (Turn nO X6 VV):=by rw [← hV];exact turn_drewN nO _ _
         clear hV
         go_wp2
         go_meet
         exact ⟨rfl,HE⟩
     case rest =>
       obtain ⟨rfl,hcut⟩:=hcut
       rename World=>V7
       have HT7:Hid (Turn nO X6 V7):=hcut
       have TV7:=uH HT7
       have y0:=TV7.froz z0 id y0
       have z0:=TV7.cell z0 id
       have y1:=TV7.froz z1 id y1
       have z1:=TV7.cell z1 id
       have y2:=TV7.froz z2 id y2
       have z2:=TV7.cell z2 id
       have y3:=TV7.froz z3 id y3
       have z3:=TV7.cell z3 id
       have y4:=TV7.froz z4 id y4
       have z4:=TV7.cell z4 id
       have y5:=TV7.froz z5 id y5
       have z5:=TV7.cell z5 id
       have d67:=TV7.cell d65 id
       have k17:=TV7.cell k15 id
       have b57:=TV7.cell b5 id
       have x37:=TV7.cell x3 id
       have h57:X6.heap.size≤V7.heap.size:=TV7.size
       have T47:Hid (Turn nO w4 V7):=(uH HX6).sT TV7 (fun _ _ h=>h)
       clear TV7 d65 k15 b5 x3
       go_upto_if 158 with fail
       go_cut [12,13] from 159 to 189 (fun _ _ wx=>Hid (Turn nO w4 wx∧wx.cell? ⟨V5.heap.size,0,none⟩=some (.string B.key)∧wx.cell? ⟨V5.heap.size,1,none⟩=some (.int .i64 B.ver)∧wx.cell? ⟨V5.heap.size,2,none⟩=some (.int .i64 B.pres)∧wx.cell? ⟨V5.heap.size,3,none⟩=some (.string B.val)∧wx.cell? ⟨V5.heap.size,4,none⟩=some (.int .i64 B.base)∧wx.cell? ⟨V5.heap.size,5,none⟩=some (.int .i64 B.since)))
       case first =>
         cases CB with
         | false =>
           have hEB:B=⟨key,ver,pres,val,age+el,ck⟩:=by
             cases he:t.entry n key with
             | none=>exact (uH HBE).1 he
             | some e =>
               have h1:=uH HCB
               rw [he] at h1
               have h2:¬ ver≤e.ver:=of_decide_eq_false h1.symm
               rw [(uH HBE).2 e he,if_pos (by omega)]
           have HE:Hid (Turn nO w4 V7∧V7.cell? ⟨V5.heap.size,0,none⟩=some (.string B.key)∧V7.cell? ⟨V5.heap.size,1,none⟩=some (.int .i64 B.ver)∧V7.cell? ⟨V5.heap.size,2,none⟩=some (.int .i64 B.pres)∧V7.cell? ⟨V5.heap.size,3,none⟩=some (.string B.val)∧V7.cell? ⟨V5.heap.size,4,none⟩=some (.int .i64 B.base)∧V7.cell? ⟨V5.heap.size,5,none⟩=some (.int .i64 B.since)):=by
             rw [hEB]
             exact ⟨uH T47,z0,z1,z2,z3,z4,z5⟩
           clear z0 z1 z2 z3 z4 z5 y0 y1 y2 y3 y4 y5 hEB HBE HCASE HCB KA
           go_wp2
           go_meet
           exact HE
         | true =>
           rcases uH HCASE with ⟨q1,q2,q3⟩|⟨ei,e,eb,ec,q1,q2,q3,q4,q5,q6,c0,c1,c2,c3,c4,c5⟩
           ·have h1:=uH HCB
            rw [q2] at h1
            cases h1
           ·subst q1
            have h1:=uH HCB
            rw [q4] at h1
            have hge:ver≤e.ver:=of_decide_eq_true h1.symm
            rw [q6] at k17
            have m0:(0:Int)≤(ei:Int):=by omega
            have m1:(ei:Int)<(oel:Int):=by omega
            have HBB:=hide ((uH HBE).2 e q4)
            have HKA:=hide (fun (w':World) (T:Turn nO w4 w')=>uH KA w' T e q3)
            rw [uH HAGE e] at HKA
            have c0:=(uH T47).cell c0 id
            have c1:=(uH T47).cell c1 id
            have c2:=(uH T47).cell c2 id
            have c3:=(uH T47).cell c3 id
            have c4:=(uH T47).cell c4 id
            have c5:=(uH T47).cell c5 id
            generalize t.age n e=ax at *
            obtain ⟨ek,ev,ep,ex,eb0,es⟩:=e
            unfold keptV keptL at HKA
            dsimp only at *
            have HGE:=hide (show ¬ ev<ver by omega)
            clear HCASE q2 HBE KA q3 q4 q5 q6 HAB HAGE h1 HCB hge
            go_wp2_with fail
            generalize hX8:World.alloc V7 _=X8
            have TX8:Turn nO V7 X8:=by rw [← hX8];exact Turn.alloc _ _ _
            have q0:X8.cell? ⟨V7.heap.size,0,none⟩=some (.string ek):=by rw [← hX8];exact cOf (new1_0 V7 _) 0
            have p0:X8.frozen? ⟨V7.heap.size,0,none⟩=false:=by rw [← hX8];exact fOf (new1_0 V7 _) 0
            have q1:X8.cell? ⟨V7.heap.size,1,none⟩=some (.int .i64 ev):=by rw [← hX8];exact cOf (new1_0 V7 _) 1
            have p1:X8.frozen? ⟨V7.heap.size,1,none⟩=false:=by rw [← hX8];exact fOf (new1_0 V7 _) 1
            have q2:X8.cell? ⟨V7.heap.size,2,none⟩=some (.int .i64 ep):=by rw [← hX8];exact cOf (new1_0 V7 _) 2
            have p2:X8.frozen? ⟨V7.heap.size,2,none⟩=false:=by rw [← hX8];exact fOf (new1_0 V7 _) 2
            have q3:X8.cell? ⟨V7.heap.size,3,none⟩=some (.string ex):=by rw [← hX8];exact cOf (new1_0 V7 _) 3
            have p3:X8.frozen? ⟨V7.heap.size,3,none⟩=false:=by rw [← hX8];exact fOf (new1_0 V7 _) 3
            have q4:X8.cell? ⟨V7.heap.size,4,none⟩=some (.int .i64 eb0):=by rw [← hX8];exact cOf (new1_0 V7 _) 4
            have p4:X8.frozen? ⟨V7.heap.size,4,none⟩=false:=by rw [← hX8];exact fOf (new1_0 V7 _) 4
            have q5:X8.cell? ⟨V7.heap.size,5,none⟩=some (.int .i64 es):=by rw [← hX8];exact cOf (new1_0 V7 _) 5
            have p5:X8.frozen? ⟨V7.heap.size,5,none⟩=false:=by rw [← hX8];exact fOf (new1_0 V7 _) 5
            have y0:=TX8.froz z0 id y0
            have z0:=TX8.cell z0 id
            have y1:=TX8.froz z1 id y1
            have z1:=TX8.cell z1 id
            have y2:=TX8.froz z2 id y2
            have z2:=TX8.cell z2 id
            have y3:=TX8.froz z3 id y3
            have z3:=TX8.cell z3 id
            have y4:=TX8.froz z4 id y4
            have z4:=TX8.cell z4 id
            have y5:=TX8.froz z5 id y5
            have z5:=TX8.cell z5 id
            have b58:=TX8.cell b57 id
            have T48:Turn nO w4 X8:=(uH T47).sT TX8 (fun _ _ h=>h)
            have h78:V7.heap.size<X8.heap.size:=cell_lt q0
            refine (uH HKA X8 T48).mono ?_
            rintro e w9 ⟨rfl,T9⟩
            have p0:=T9.froz q0 id p0
            have q0:=T9.cell q0 id
            have y0:=T9.froz z0 id y0
            have z0:=T9.cell z0 id
            have p1:=T9.froz q1 id p1
            have q1:=T9.cell q1 id
            have y1:=T9.froz z1 id y1
            have z1:=T9.cell z1 id
            have p2:=T9.froz q2 id p2
            have q2:=T9.cell q2 id
            have y2:=T9.froz z2 id y2
            have z2:=T9.cell z2 id
            have p3:=T9.froz q3 id p3
            have q3:=T9.cell q3 id
            have y3:=T9.froz z3 id y3
            have z3:=T9.cell z3 id
            have p4:=T9.froz q4 id p4
            have q4:=T9.cell q4 id
            have y4:=T9.froz z4 id y4
            have z4:=T9.cell z4 id
            have p5:=T9.froz q5 id p5
            have q5:=T9.cell q5 id
            have y5:=T9.froz z5 id y5
            have z5:=T9.cell z5 id
            have b59:=T9.cell b58 id
            have HT9:Hid (Turn nO w4 w9):=T48.sT T9 (fun _ _ h=>h)
            have h89:X8.heap.size≤w9.heap.size:=T9.size
            have hbb:V7.heap.size≠V5.heap.size:=by omega
            have hbb2:V5.heap.size≠V7.heap.size:=by omega
            have hsome:∀ j,j<6→(w9.cell? ⟨V5.heap.size,j,none⟩).isSome=true:=fun j hj=>by
              have:j=0∨j=1∨j=2∨j=3∨j=4∨j=5:=by omega
              rcases this with rfl|rfl|rfl|rfl|rfl|rfl
              ·rw [z0];rfl
              ·rw [z1];rfl
              ·rw [z2];rfl
              ·rw [z3];rfl
              ·rw [z4];rfl
              ·rw [z5];rfl
            clear T9 T48 hX8 c0 c1 c2 c3 c4 c5 d67 k17 b57 b58 HKA TX8
            by_cases hsame:ev=ver
            ·subst hsame
             by_cases hbase:age+el≤ax
             ·have HBS:=hide hbase
              have T79:OffB V7.heap.size w9 ((w9.setCell ⟨V7.heap.size,4,none⟩ (.int .i64 (age+el))).setCell ⟨V7.heap.size,5,none⟩ (.int .i64 ck)):=(OffB.refl _ _).set.set
              have U:=six_set (Z:=((w9.setCell ⟨V7.heap.size,4,none⟩ (.int .i64 (age+el))).setCell ⟨V7.heap.size,5,none⟩ (.int .i64 ck))) (b:=V5.heap.size) (v0:=(.string ek)) (v1:=(.int .i64 ev)) (v2:=(.int .i64 ep)) (v3:=(.string ex)) (v4:=(.int .i64 (age+el))) (v5:=(.int .i64 ck)) (fun j hj=>by rw [T79.cells hbb2];exact hsome j hj)
              go_wp2
              generalize hY:World.setCell _ _ _=Y
              rw [hY] at U
              have TY:Turn nO w4 Y:=by
                rw [← hY]
                exact (uH HT9).trans (show Turn (fun k=>w4.heap.size≤k) w9 _ from by repeat (first|(with_reducible exact Turn.refl _ _)|((with_reducible refine Turn.sS ?_ ?_);rotate_left;· exact Or.inr (by dsimp only;omega)))) (fun k hk h=>absurd h (by omega))
              have hEB:B=⟨ek,ev,ep,ex,age+el,ck⟩:=by rw [uH HBB,if_neg (by have:=uH HGE;omega),if_pos ⟨by first|rfl|trivial,uH HBS⟩]
              have HE:Hid (Turn nO w4 Y∧Y.cell? ⟨V5.heap.size,0,none⟩=some (.string B.key)∧Y.cell? ⟨V5.heap.size,1,none⟩=some (.int .i64 B.ver)∧Y.cell? ⟨V5.heap.size,2,none⟩=some (.int .i64 B.pres)∧Y.cell? ⟨V5.heap.size,3,none⟩=some (.string B.val)∧Y.cell? ⟨V5.heap.size,4,none⟩=some (.int .i64 B.base)∧Y.cell? ⟨V5.heap.size,5,none⟩=some (.int .i64 B.since)):=by
                subst hEB
                exact ⟨TY,U⟩
              clear hY TY hEB U
              go_meet
              exact HE
             ·have HBS:=hide hbase
              have U:=six_set (Z:=w9) (b:=V5.heap.size) (v0:=(.string ek)) (v1:=(.int .i64 ev)) (v2:=(.int .i64 ep)) (v3:=(.string ex)) (v4:=(.int .i64 eb0)) (v5:=(.int .i64 es)) hsome
              go_wp2
              generalize hY:World.setCell _ _ _=Y
              rw [hY] at U
              have TY:Turn nO w4 Y:=by
                rw [← hY]
                exact (uH HT9).trans (show Turn (fun k=>w4.heap.size≤k) w9 _ from by repeat (first|(with_reducible exact Turn.refl _ _)|((with_reducible refine Turn.sS ?_ ?_);rotate_left;· exact Or.inr (by dsimp only;omega)))) (fun k hk h=>absurd h (by omega))
              have hEB:B=⟨ek,ev,ep,ex,eb0,es⟩:=by rw [uH HBB,if_neg (by have:=uH HGE;omega),if_neg (fun c=>by have:=uH HBS;have:=c.2;omega)]
              have HE:Hid (Turn nO w4 Y∧Y.cell? ⟨V5.heap.size,0,none⟩=some (.string B.key)∧Y.cell? ⟨V5.heap.size,1,none⟩=some (.int .i64 B.ver)∧Y.cell? ⟨V5.heap.size,2,none⟩=some (.int .i64 B.pres)∧Y.cell? ⟨V5.heap.size,3,none⟩=some (.string B.val)∧Y.cell? ⟨V5.heap.size,4,none⟩=some (.int .i64 B.base)∧Y.cell? ⟨V5.heap.size,5,none⟩=some (.int .i64 B.since)):=by
                subst hEB
                exact ⟨TY,U⟩
              clear hY TY hEB U
              go_meet
              exact HE
            ·have HBS:=hide hsame
             have hsb:(ev == ver)=false:=by simp [hsame]
             have hsd:decide (ev=ver)=false:=decide_eq_false hsame
             have U:=six_set (Z:=w9) (b:=V5.heap.size) (v0:=(.string ek)) (v1:=(.int .i64 ev)) (v2:=(.int .i64 ep)) (v3:=(.string ex)) (v4:=(.int .i64 eb0)) (v5:=(.int .i64 es)) hsome
             go_wp2
             generalize hY:World.setCell _ _ _=Y
             rw [hY] at U
             have TY:Turn nO w4 Y:=by
               rw [← hY]
               exact (uH HT9).trans (show Turn (fun k=>w4.heap.size≤k) w9 _ from by repeat (first|(with_reducible exact Turn.refl _ _)|((with_reducible refine Turn.sS ?_ ?_);rotate_left;· exact Or.inr (by dsimp only;omega)))) (fun k hk h=>absurd h (by omega))
             have hEB:B=⟨ek,ev,ep,ex,eb0,es⟩:=by rw [uH HBB,if_neg (by have:=uH HGE;omega),if_neg (fun c=>by have:=uH HBS;have:=c.1;omega)]
             have HE:Hid (Turn nO w4 Y∧Y.cell? ⟨V5.heap.size,0,none⟩=some (.string B.key)∧Y.cell? ⟨V5.heap.size,1,none⟩=some (.int .i64 B.ver)∧Y.cell? ⟨V5.heap.size,2,none⟩=some (.int .i64 B.pres)∧Y.cell? ⟨V5.heap.size,3,none⟩=some (.string B.val)∧Y.cell? ⟨V5.heap.size,4,none⟩=some (.int .i64 B.base)∧Y.cell? ⟨V5.heap.size,5,none⟩=some (.int .i64 B.since)):=by
               subst hEB
               exact ⟨TY,U⟩
             clear hY TY hEB U
             go_meet
             exact HE
       case rest =>
         rename World=>V9
         obtain ⟨T49,u0,u1,u2,u3,u4,u5⟩:=uH (show Hid _ from hcut)
         have b3:=T49.cell (uH HX3) id
         have KU2:=hide (uH KU V9 T49)
         unfold keptV keptL at KU2
         have HL9:=hide ((uH HL5).step (Step.of_turn (τ:=τ) T49))
         have HS9:Hid (Step τ own o5 w V9):=(uH HS5).trans (Step.of_turn T49)
         have hw9:w.heap.size<V9.heap.size:=cell_lt b3
         clear T49 KU HR5 HL5 HS5 HX3 z0 z1 z2 z3 z4 z5 y0 y1 y2 y3 y4 y5 d67 k17 b57 x37 HCB HCASE HBE KA HAB HAGE T47 HT7 HX6 HT5 hcut
         go_wp2_with fail
         refine (uH KU2).mono ?_
         rintro e w10 ⟨rfl,R10⟩
         obtain ⟨o10,g10,R10,S10⟩:=R10.is
         have b10:=S10.cell b3 o5w
         have o10w:o10 w.heap.size=none:=S10.free hw9 o5w
         have HL10:=hide ((uH HL9).step S10)
         have HS10:Hid (Step τ own o10 w w10):=(uH HS9).trans S10
         have HR10:=hide R10
         have KFR:=hide (rfresh_any R10 (uH HU).lt (uH HU).len (uH HU).fine key)
         clear KU2 R10 S10 HL9 HS9 b3 u0 u1 u2 u3 u4 u5
         go_wp2_with fail
         refine (uH KFR).mono ?_
         rintro e w11 ⟨rfl,T11⟩
         have b11:=T11.cell b10 id
         have HR11:=hide ((uH HR10).turn T11)
         have HL11:=hide ((uH HL10).step (Step.of_turn (τ:=τ) T11))
         have HS11:Hid (Step τ own o10 w w11):=(uH HS10).trans (Step.of_turn T11)
         have hw11:w.heap.size<w11.heap.size:=cell_lt b11
         have HRL:=hide (fun j x=>refuseAll_snoc ((t.over n key).uses n B) n key f'.l j x)
         have HRN:=hide (fun j=>refuseAll_len n key (f'.l.take j) ((t.over n key).uses n B))
         have HTA:=hide (tellAll_ok (uH HTOK) (uH HBK) f'.l)
         clear T11 KFR b10 HR10 HL10 HS10
         generalize (t.over n key).uses n B=u at *
         generalize f'.l=l at *
         generalize hN:l.length=N at *
         cases hfr:u.fresh n key with
         | true =>
           rw [hfr,if_pos rfl] at HANS
           clear hfr
           have HW0:Hid (WLoop o10 τ w11 w11 br (u.tellAll n key (l.take 0)) l (.slice la N lc)):=⟨_,_,uH HR11,Step.refl _ _ _,uH HL11⟩
           go_wp2
           go_loopw [15] (fun i wr=>∃ j:Nat,j≤N∧i= .int .i64 (j:Int)∧Hid (WLoop o10 τ w11 wr br (u.tellAll n key (l.take j)) l (.slice la N lc))) (fun i _=>N - (intOf i).toNat)
           case atStart=>exact ⟨0,Nat.zero_le _,rfl,HW0⟩
           case round =>
             clear HW0
             obtain ⟨j,jN,rfl,HW⟩:=hrel
             have hjw:IntKind.i64.wrap ((j:Int)+1)=(j:Int)+1:=by rw [IntKind.wrap_i64];have:=uH HLL;omega
             by_cases hlt:j<N
             ·obtain ⟨x,hx⟩:∃ x,l[j]?=some x:=⟨_,List.getElem?_eq_getElem (by omega)⟩
              obtain ⟨o,g1,R,S,L⟩:=(uH HW).is
              obtain ⟨b,c',ev,hbo,_,hcl⟩:=looseAt L (fun _=>rfl) hx
              rw [hN] at ev
              cases ev
              obtain ⟨c0,c1,c2,c3⟩:=rC4 hcl
              have b3:=S.cell b11 o10w
              have nb0:¬ Mine o τ w.heap.size:=fun ⟨y,hy⟩=>by rw [S.free hw11 o10w] at hy;cases hy
              have nb1:¬ Mine o τ b:=fun ⟨y,hy⟩=>by rw [hbo] at hy;cases hy
              have J0:(0:Int)≤(j:Int):=by omega
              have J1:(j:Int)<(N:Int):=by omega
              have TD:=Turn.drew nO wr
              have htok:=uH HTA j (by omega)
              have KR:=hide (rtoldBy_any (R.turn TD) htok.cf (by have:=htok.net;have:=uH HLL;omega) (by have:=htok.ans;have:=uH HLL;omega) key B htok.ent x)
              rw [← tellAll_snoc hx htok.ent] at KR
              have HNX:=hide (fun wx (R':RLeaves o τ wr.drew br (u.tellAll n key (l.take (j+1))) wx)=>WLoop.next o (S.trans (Step.of_turn TD)) (L.step (Step.of_turn (τ:=τ) TD)) R')
              obtain ⟨xn,xi,xs,xt⟩:=x
              unfold wtrV wtrL at KR
              dsimp only at *
              clear R S L hcl hx HW TD
              go_wp2
              have HS:=fun w' (T:Turn (Mine o τ) wr w')=>And.intro T (And.intro (T.cell b3 (by first|exact nb0|exact nb1)) (And.intro (T.cell c0 (by first|exact nb0|exact nb1)) (And.intro (T.cell c1 (by first|exact nb0|exact nb1)) (And.intro (T.cell c2 (by first|exact nb0|exact nb1)) (T.cell c3 (by first|exact nb0|exact nb1))))))
              go_region_held3 (fun w'=>Turn (Mine o τ) wr w'∧w'.cell? ⟨w.heap.size,3,none⟩=some (.string key)∧w'.cell? ⟨b,j*4,none⟩=some (.int .i64 xn)∧w'.cell? ⟨b,j*4+1,none⟩=some (.int .i64 xi)∧w'.cell? ⟨b,j*4+2,none⟩=some (.int .i64 xs)∧w'.cell? ⟨b,j*4+3,none⟩=some (.int .i64 xt)) ((go_split_ands;apply HS;all_goals (repeat (first|(with_reducible first|assumption|exact Turn.refl _ _|apply Turn.sA|apply Turn.sD|refine tN ?_ (by assumption))|((with_reducible refine Turn.sS ?_ ?_);rotate_left;· first|exact Or.inr rfl|exact Or.inr (Or.inl rfl)|exact Or.inl (by simp <;> omega))|(with_reducible refine tG ?_ (by assumption))|(with_reducible first|apply There.drew|apply There.set|refine hNo ?_ (by assumption))|assumption)))) (first|(go_at_call 107;go_split_ands;refine (uH KR).mono ?_;rintro e w8 ⟨rfl,R8⟩;have TF:Turn (Mine o τ) wr w8:=(Turn.drew _ wr).sT (by obtain ⟨_,_,_,S8⟩:=R8.is;exact S8.turn) (fun _ _ h=>h)))
              go_split_ands
              clear HS
              have HW':=hide (uH HNX _ R8)
              clear R8 HNX KR c0 c1 c2 c3 b3 TF
              go_wp2
              go_roundw
              case rel=>exact ⟨j+1,by omega,by go_num,HW'⟩
              case measure=>simp [intOf];omega
             ·have j1:¬ (j:Int)<(N:Int):=by omega
              have hall:l.take j=l:=List.take_of_length_le (by omega)
              have HE:Hid (RLeaves own τ w br (u.tellAll n key l) wr):=by
                have h1:=(uH HW).leaves
                rw [hall] at h1
                exact h1.trans (uH HS11)
              clear HW hall
              go_wp2
              go_end0
              exact ⟨rfl,by rw [uH HANS];exact uH HE⟩
         | false =>
           rw [hfr,if_neg (by decide)] at HANS
           clear hfr
           have HW0:Hid (WLoop o10 τ w11 w11 br (u.refuseAll n key (l.take 0)) l (.slice la N lc)):=⟨_,_,uH HR11,Step.refl _ _ _,uH HL11⟩
           go_wp2
           go_loopw [15] (fun i wr=>∃ j:Nat,j≤N∧i= .int .i64 (j:Int)∧Hid (WLoop o10 τ w11 wr br (u.refuseAll n key (l.take j)) l (.slice la N lc))) (fun i _=>N - (intOf i).toNat)
           case atStart=>exact ⟨0,Nat.zero_le _,rfl,HW0⟩
           case round =>
             clear HW0
             obtain ⟨j,jN,rfl,HW⟩:=hrel
             have hjw:IntKind.i64.wrap ((j:Int)+1)=(j:Int)+1:=by rw [IntKind.wrap_i64];have:=uH HLL;omega
             by_cases hlt:j<N
             ·obtain ⟨x,hx⟩:∃ x,l[j]?=some x:=⟨_,List.getElem?_eq_getElem (by omega)⟩
              obtain ⟨o,g1,R,S,L⟩:=(uH HW).is
              obtain ⟨b,c',ev,hbo,_,hcl⟩:=looseAt L (fun _=>rfl) hx
              rw [hN] at ev
              cases ev
              obtain ⟨c0,c1,c2,c3⟩:=rC4 hcl
              have b3:=S.cell b11 o10w
              have nb0:¬ Mine o τ w.heap.size:=fun ⟨y,hy⟩=>by rw [S.free hw11 o10w] at hy;cases hy
              have nb1:¬ Mine o τ b:=fun ⟨y,hy⟩=>by rw [hbo] at hy;cases hy
              have J0:(0:Int)≤(j:Int):=by omega
              have J1:(j:Int)<(N:Int):=by omega
              have TD:=Turn.drew nO wr
              have hln:=uH HRN j
              rw [List.length_take] at hln
              have KR:=hide (rrefused_any (R.turn TD) (by have:=(uH HULN).1;have:=uH HLL;omega) (by have:=(uH HULN).2;have:=uH HLL;omega) n key x)
              rw [← uH HRL j x hx] at KR
              have HNX:=hide (fun wx (R':RLeaves o τ wr.drew br (u.refuseAll n key (l.take (j+1))) wx)=>WLoop.next o (S.trans (Step.of_turn TD)) (L.step (Step.of_turn (τ:=τ) TD)) R')
              obtain ⟨xn,xi,xs,xt⟩:=x
              unfold wtrV wtrL at KR
              dsimp only at *
              clear R S L hcl hx HW TD
              go_wp2
              have HS:=fun w' (T:Turn (Mine o τ) wr w')=>And.intro T (And.intro (T.cell b3 (by first|exact nb0|exact nb1)) (And.intro (T.cell c0 (by first|exact nb0|exact nb1)) (And.intro (T.cell c1 (by first|exact nb0|exact nb1)) (And.intro (T.cell c2 (by first|exact nb0|exact nb1)) (T.cell c3 (by first|exact nb0|exact nb1))))))
              go_region_held3 (fun w'=>Turn (Mine o τ) wr w'∧w'.cell? ⟨w.heap.size,3,none⟩=some (.string key)∧w'.cell? ⟨b,j*4,none⟩=some (.int .i64 xn)∧w'.cell? ⟨b,j*4+1,none⟩=some (.int .i64 xi)∧w'.cell? ⟨b,j*4+2,none⟩=some (.int .i64 xs)∧w'.cell? ⟨b,j*4+3,none⟩=some (.int .i64 xt)) ((go_split_ands;apply HS;all_goals (repeat (first|(with_reducible first|assumption|exact Turn.refl _ _|apply Turn.sA|apply Turn.sD|refine tN ?_ (by assumption))|((with_reducible refine Turn.sS ?_ ?_);rotate_left;· first|exact Or.inr rfl|exact Or.inr (Or.inl rfl)|exact Or.inl (by simp <;> omega))|(with_reducible refine tG ?_ (by assumption))|(with_reducible first|apply There.drew|apply There.set|refine hNo ?_ (by assumption))|assumption)))) (first|(go_at_call 87;go_split_ands;refine (uH KR).mono ?_;rintro e w8 ⟨rfl,R8⟩;have TF:Turn (Mine o τ) wr w8:=(Turn.drew _ wr).sT (by obtain ⟨_,_,_,S8⟩:=R8.is;exact S8.turn) (fun _ _ h=>h)))
              go_split_ands
              clear HS
              have HW':=hide (uH HNX _ R8)
              clear R8 HNX KR c0 c1 c2 c3 b3 TF
              go_wp2
              go_roundw
              case rel=>exact ⟨j+1,by omega,by go_num,HW'⟩
              case measure=>simp [intOf];omega
             ·have j1:¬ (j:Int)<(N:Int):=by omega
              have hall:l.take j=l:=List.take_of_length_le (by omega)
              have HE:Hid (RLeaves own τ w br (u.refuseAll n key l) wr):=by
                have h1:=(uH HW).leaves
                rw [hall] at h1
                exact h1.trans (uH HS11)
              clear HW hall
              go_wp2
              go_end0
              exact ⟨rfl,by rw [uH HANS];exact uH HE⟩
end
end Go.Proofs.YtpdkojgepagbnaaGreatDoor
