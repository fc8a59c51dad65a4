/-
  A step on one of the tiers.
  A step that asks no tier: Right, Pack, Unpack.
  A step: whatever its kind.
  All lists read as their owner left them.
-/
import Derived.Test.YtpdkojgepagbnaaGreatDoorJ43
import Derived.Test.YtpdkojgepagbnaaGreatDoorJ44
namespace Go.Proofs.YtpdkojgepagbnaaGreatDoor
set_option maxRecDepth 100000
set_option maxHeartbeats 8000000
section
open Go.RowKit Go.Deep
open Tier (Mes Ans Conf St)
attribute [local go_sem ↓] Go.wp_at_zero Go.wp_at_succ
variable {own:Own} {w w0:World} {bw B:Nat} {g:LG} {ps:List PairD}
def chgK (k:Int):Prop:=k=5∨k=6∨k=7∨k=8∨k=10∨k=13∨k=14∨k=15∨k=16∨k≤0
theorem changes_any {τ1 τ2 bt br b:Nat} {t:St} {g:RGh} (hT:TierAt own τ1 w bt b t) (hR:RLies own τ2 w br g t) (hne:τ1≠τ2) (hK:KeyTab w) (hb:b≤800000) (o:OpD) (hs:o.s.size≤maxLen) (ht:o.t.size≤maxLen) (hk:chgK o.kind) :
    Calls Tryz.prog 20 #[prV bt br,o.val] w fun r w'=>r= .returned (.bool true)∧Leave2 own τ1 τ2 w bt br (b+5) w':=by
 rcases hk with h|h|h|h|h|h|h|h|h|h
 ·exact changes_write hT hR hne hK hb o hs ht h
 ·exact changes_remove hT hR hne hK hb o hs ht h
 ·exact changes_clock hT hR hne hK hb o hs ht h
 ·exact changes_ask hT hR hne hK hb o hs ht h
 ·exact changes_deliver hT hR hne hK hb o hs ht h
 ·exact changes_lose hT hR hne hK hb o hs ht h
 ·exact changes_double hT hR hne hK hb o hs ht h
 ·exact changes_timeout hT hR hne hK hb o hs ht h
 ·exact changes_crash hT hR hne hK hb o hs ht h
 ·exact changes_none hT hR o h
theorem LawAt.changes (L:LawAt own w0 w bw B g ps) (hB:B≤800000) (hK:KeyTab w0) {j:Nat} {p:PairD} (hp:ps[j]?=some p) (o:OpD) (ok:OpOK w0 o) (hk:chgK o.kind) :
    Calls Tryz.prog 20 #[prV p.bt p.br,o.val] w fun r w'=>r= .returned (.bool true)∧LawOn w0 bw (B+5) w':=by
 obtain ⟨rg,hR⟩:=L.refs j p hp
 refine (changes_any (L.tier j p hp) hR (by omega) (hK.turn L.out) hB o ok.s ok.t hk).mono ?_
 rintro r w' ⟨rfl,⟨own',t',h⟩⟩
 exact ⟨rfl,⟨own',g,_,L.both hp h (by omega)⟩⟩
theorem step_chg (L:LawAt own w0 w bw B g ps) (hB:B≤800000) (hn:0<ps.length) (o:OpD) (ok:OpOK w0 o) (hK:KeyTab w0) (hk:chgK o.kind) :
    Calls Tryz.prog 7 #[.pointer (some ⟨bw,0,none⟩),o.val] w fun r w'=>r= .returned (.bool true)∧LawOn w0 bw (B+5) w':=by
 have hpl:ps.length≤800000:=Nat.le_trans L.few.1 hB
 obtain ⟨j,hj⟩:∃ j:Nat,pickL o.on (ps.length:Int)=(j:Int):=⟨(pickL o.on (ps.length:Int)).toNat,by have:=pickL_ok o.on (n:=(ps.length:Int)) (by omega);omega⟩
 have hjl:j<ps.length:=by have:=pickL_ok o.on (n:=(ps.length:Int)) (by omega);omega
 obtain ⟨p,hp⟩:∃ p,ps[j]?=some p:=⟨_,List.getElem?_eq_getElem hjl⟩
 have KP:=hide (fun w'=>pickL_any o.on (ps.length:Int) w' ok.on (by omega))
 rw [hj] at KP
 obtain ⟨nb,nc,hnv,_,hnb,hcs,_⟩:=rowAt L.prs (fun _=>rfl) hp
 have d0:w.cell? ⟨bw,0,none⟩=some (.slice (some ⟨nb,0,none⟩) ps.length nc):=by rw [← hnv];exact cOf L.block 0
 obtain ⟨c0,c1⟩:=rC2 hcs
 have hbw:=L.lt
 have j0:(0:Int)≤(j:Int):=by omega
 have j1:(j:Int)<(ps.length:Int):=by omega
 have n0:¬ (ps.length:Int)=0:=by omega
 have KM:=hide (fun w' (T:Turn nO w w')=>(L.turn T).changes hB hK hp o ok hk)
 obtain ⟨kind,on,a_,b_,s_,t_,pa,pc,zs,dr,bu,en,wa,m⟩:=o
 obtain ⟨bt,br,t⟩:=p
 dsimp only at *
 have k1:¬ kind=1:=by unfold chgK at hk;omega
 have k2:¬ kind=2:=by unfold chgK at hk;omega
 have k3:¬ kind=3:=by unfold chgK at hk;omega
 have k4:¬ kind=4:=by unfold chgK at hk;omega
 have k9:¬ kind=9:=by unfold chgK at hk;omega
 have k11:¬ kind=11:=by unfold chgK at hk;omega
 have k12:¬ kind=12:=by unfold chgK at hk;omega
 generalize ps.length=N at *
 clear L ok hB hnv hcs hp hpl hj hk
 unfold prV at KM
 unfold OpD.val OpD.cells opC at *
 dsimp only at *
 go_enter Tryz.func7,Tryz.ntmps7
 go_upto_region 1 with fail
 generalize hW:World.alloc _ _=W0
 have T0:Turn nO w W0:=by rw [← hW];exact Turn.alloc _ _ _
 have b0:W0.heap[w.heap.size]?=some (.cells (opC kind on a_ b_ s_ t_ pa zs.length pc dr bu en wa m) 39 (0,0)):=by rw [← hW];exact new1_0 _ _
 unfold opC at b0
 clear hW
 have y0:W0.cell? ⟨w.heap.size,0,none⟩=some (.int .i64 kind):=cOf b0 0
 have y1:W0.cell? ⟨w.heap.size,1,none⟩=some (.int .i64 on):=cOf b0 1
 have y2:W0.cell? ⟨w.heap.size,2,none⟩=some (.int .i64 a_):=cOf b0 2
 have e0:=T0.cell d0 id
 have e1:=T0.cell c0 id
 have e2:=T0.cell c1 id
 clear d0 c0 c1
 go_wp2
 have HS:=fun w' (T:Turn nO W0 w')=>And.intro T (And.intro (T.cell e0 id) (And.intro (T.cell y1 id) (And.intro (T.cell e1 id) (T.cell e2 id))))
 go_region_held3 (fun w'=>Turn nO W0 w'∧w'.cell? ⟨bw,0,none⟩=some (.slice (some ⟨nb,0,none⟩) N nc)∧w'.cell? ⟨w.heap.size,1,none⟩=some (.int .i64 on)∧w'.cell? ⟨nb,j*2,none⟩=some (.pointer (some ⟨bt,0,none⟩))∧w'.cell? ⟨nb,j*2+1,none⟩=some (.pointer (some ⟨br,0,none⟩))) ((go_split_ands;apply HS;all_goals (repeat (first|(with_reducible first|assumption|exact Turn.refl _ _|apply Turn.sA|apply Turn.sD|refine tN ?_ (by assumption))|((with_reducible refine Turn.sS ?_ ?_);rotate_left;· first|exact Or.inr rfl|exact Or.inr (Or.inl rfl)|exact Or.inl (by simp <;> omega))|(with_reducible refine tG ?_ (by assumption))|(with_reducible first|apply There.drew|apply There.set|refine hNo ?_ (by assumption))|assumption)))) ((go_at_call 16;go_split_ands;refine (uH KP _).mono ?_;rintro e w' ⟨rfl,rfl⟩))
 all_goals (
   clear HS KP
   generalize hW5:World.drew _=W5
   have T5:Turn nO W0 W5:=by rw [← hW5];exact (Turn.alloc _ _ _).sD
   have bp:W5.heap[W0.heap.size]?=some (.cells #[.pointer (some ⟨bt,0,none⟩),.pointer (some ⟨br,0,none⟩)] 54 (0,0)):=by rw [← hW5];exact new1_0 _ _
   clear hW5
   obtain ⟨z0,z1⟩:=cC2 bp
   have v0:W5.cell? ⟨w.heap.size,0,none⟩=some (.int .i64 kind):=T5.cell y0 id
   have v1:W5.cell? ⟨w.heap.size,1,none⟩=some (.int .i64 on):=T5.cell y1 id
   have v2:W5.cell? ⟨w.heap.size,2,none⟩=some (.int .i64 a_):=T5.cell y2 id
   have b5:=(T5.block _ (heap_lt b0) id).trans b0
   have KM5:=hide (uH KM W5 (T0.sT T5 (fun _ _ h=>h)))
   clear T5 T0 bp KM
   go_wp2_with (refine wpList_load_row rfl 39 _ rfl w.heap.size rfl 39 _ (0,0) _ b5 Tryz.underlying39 rfl (by kernel_rfl) ?_)
   refine (uH KM5).mono ?_
   rintro e w9 ⟨rfl,h9⟩
   have H9:=hide h9
   clear h9 KM5
   go_wp2
   go_ret
   exact ⟨rfl,uH H9⟩)
theorem step_right (L:LawAt own w0 w bw B g ps) (o:OpD) (ok:OpOK w0 o) (hk:o.kind=2) :
    Calls Tryz.prog 7 #[.pointer (some ⟨bw,0,none⟩),o.val] w fun r w'=>r= .returned (.bool true)∧LawOn w0 bw (B+5) w':=by
 have HL:Hid (∀ w',Turn nO w w'→LawOn w0 bw (B+5) w'):=fun w' T=>⟨own,g,ps,(L.turn T).mono (by omega)⟩
 obtain ⟨kind,on,a_,b_,s_,t_,pa,pc,zs,dr,bu,en,wa,m⟩:=o
 dsimp only at hk
 subst hk
 have KM:Hid (∀ w',Turn nO w w'→Calls Tryz.prog 15 #[.agg #[.int .i64 2,.int .i64 on,.int .i64 a_,.int .i64 b_,.string s_,.string t_,.slice pa zs.length pc,.int .i64 dr,.int .i64 bu,.int .i64 en,.int .i64 wa,.int .i64 m.kind,.int .i64 m.frm,.int .i64 m.to,.string m.key,.int .i64 m.serial,.int .i64 m.version,.int .i64 m.age,.int .i64 m.present,.string m.value]] w' fun r w''=>r= .returned (.bool true)∧Below w'.heap.size w' w''):=fun w' T=>by
   have hbl:=below_turn (L.turn T).out
   have h1:=ok.s
   have h2:=ok.key
   dsimp only at h1 h2
   exact plain_right zs w' ok.zs (ok.sl.below hbl)
 clear L ok
 unfold OpD.val OpD.cells opC
 dsimp only
 go_enter Tryz.func7,Tryz.ntmps7
 go_upto_region 1 with fail
 generalize hW:World.alloc _ _=W0
 have T0:Turn nO w W0:=by rw [← hW];exact Turn.alloc _ _ _
 have b0:W0.heap[w.heap.size]?=some (.cells (opC 2 on a_ b_ s_ t_ pa zs.length pc dr bu en wa m) 39 (0,0)):=by rw [← hW];exact new1_0 _ _
 unfold opC at b0
 clear hW
 have y0:W0.cell? ⟨w.heap.size,0,none⟩=some (.int .i64 2):=cOf b0 0
 go_wp2_with (refine wpList_load_row rfl 39 _ rfl w.heap.size rfl 39 _ (0,0) _ b0 Tryz.underlying39 rfl (by kernel_rfl) ?_)
 refine (uH KM W0 T0).mono ?_
 rintro e w1 ⟨rfl,B1⟩
 have H1:=hide (T0.sT (Turn.of_below' B1) (fun _ _ h=>h))
 clear B1 KM T0 y0 b0
 go_wp2
 go_ret
 exact ⟨rfl,uH HL _ (uH H1)⟩
theorem step_pack (L:LawAt own w0 w bw B g ps) (hK:KeyTab w0) (hD:KindTab w0) (o:OpD) (ok:OpOK w0 o) (hk:o.kind=3) :
    Calls Tryz.prog 7 #[.pointer (some ⟨bw,0,none⟩),o.val] w fun r w'=>r= .returned (.bool true)∧LawOn w0 bw (B+5) w':=by
 have HL:Hid (∀ w',Turn nO w w'→LawOn w0 bw (B+5) w'):=fun w' T=>⟨own,g,ps,(L.turn T).mono (by omega)⟩
 obtain ⟨kind,on,a_,b_,s_,t_,pa,pc,zs,dr,bu,en,wa,m⟩:=o
 dsimp only at hk
 subst hk
 have KM:Hid (∀ w',Turn nO w w'→Calls Tryz.prog 15 #[.agg #[.int .i64 3,.int .i64 on,.int .i64 a_,.int .i64 b_,.string s_,.string t_,.slice pa zs.length pc,.int .i64 dr,.int .i64 bu,.int .i64 en,.int .i64 wa,.int .i64 m.kind,.int .i64 m.frm,.int .i64 m.to,.string m.key,.int .i64 m.serial,.int .i64 m.version,.int .i64 m.age,.int .i64 m.present,.string m.value]] w' fun r w''=>r= .returned (.bool true)∧Below w'.heap.size w' w''):=fun w' T=>by
   have hbl:=below_turn (L.turn T).out
   have h1:=ok.s
   have h2:=ok.key
   dsimp only at h1 h2
   exact plain_pack w' ok.key (hD.later hbl) (hK.later hbl)
 clear L ok hK hD
 unfold OpD.val OpD.cells opC
 dsimp only
 go_enter Tryz.func7,Tryz.ntmps7
 go_upto_region 1 with fail
 generalize hW:World.alloc _ _=W0
 have T0:Turn nO w W0:=by rw [← hW];exact Turn.alloc _ _ _
 have b0:W0.heap[w.heap.size]?=some (.cells (opC 3 on a_ b_ s_ t_ pa zs.length pc dr bu en wa m) 39 (0,0)):=by rw [← hW];exact new1_0 _ _
 unfold opC at b0
 clear hW
 have y0:W0.cell? ⟨w.heap.size,0,none⟩=some (.int .i64 3):=cOf b0 0
 go_wp2_with (refine wpList_load_row rfl 39 _ rfl w.heap.size rfl 39 _ (0,0) _ b0 Tryz.underlying39 rfl (by kernel_rfl) ?_)
 refine (uH KM W0 T0).mono ?_
 rintro e w1 ⟨rfl,B1⟩
 have H1:=hide (T0.sT (Turn.of_below' B1) (fun _ _ h=>h))
 clear B1 KM T0 y0 b0
 go_wp2
 go_ret
 exact ⟨rfl,uH HL _ (uH H1)⟩
theorem step_unpack (L:LawAt own w0 w bw B g ps) (hK:KeyTab w0) (hD:KindTab w0) (o:OpD) (ok:OpOK w0 o) (hk:o.kind=4) :
    Calls Tryz.prog 7 #[.pointer (some ⟨bw,0,none⟩),o.val] w fun r w'=>r= .returned (.bool true)∧LawOn w0 bw (B+5) w':=by
 have HL:Hid (∀ w',Turn nO w w'→LawOn w0 bw (B+5) w'):=fun w' T=>⟨own,g,ps,(L.turn T).mono (by omega)⟩
 obtain ⟨kind,on,a_,b_,s_,t_,pa,pc,zs,dr,bu,en,wa,m⟩:=o
 dsimp only at hk
 subst hk
 have KM:Hid (∀ w',Turn nO w w'→Calls Tryz.prog 15 #[.agg #[.int .i64 4,.int .i64 on,.int .i64 a_,.int .i64 b_,.string s_,.string t_,.slice pa zs.length pc,.int .i64 dr,.int .i64 bu,.int .i64 en,.int .i64 wa,.int .i64 m.kind,.int .i64 m.frm,.int .i64 m.to,.string m.key,.int .i64 m.serial,.int .i64 m.version,.int .i64 m.age,.int .i64 m.present,.string m.value]] w' fun r w''=>r= .returned (.bool true)∧Below w'.heap.size w' w''):=fun w' T=>by
   have hbl:=below_turn (L.turn T).out
   have h1:=ok.s
   have h2:=ok.key
   dsimp only at h1 h2
   exact plain_unpack w' ok.s (hD.later hbl) (hK.later hbl)
 clear L ok hK hD
 unfold OpD.val OpD.cells opC
 dsimp only
 go_enter Tryz.func7,Tryz.ntmps7
 go_upto_region 1 with fail
 generalize hW:World.alloc _ _=W0
 have T0:Turn nO w W0:=by rw [← hW];exact Turn.alloc _ _ _
 have b0:W0.heap[w.heap.size]?=some (.cells (opC 4 on a_ b_ s_ t_ pa zs.length pc dr bu en wa m) 39 (0,0)):=by rw [← hW];exact new1_0 _ _
 unfold opC at b0
 clear hW
 have y0:W0.cell? ⟨w.heap.size,0,none⟩=some (.int .i64 4):=cOf b0 0
 go_wp2_with (refine wpList_load_row rfl 39 _ rfl w.heap.size rfl 39 _ (0,0) _ b0 Tryz.underlying39 rfl (by kernel_rfl) ?_)
 refine (uH KM W0 T0).mono ?_
 rintro e w1 ⟨rfl,B1⟩
 have H1:=hide (T0.sT (Turn.of_below' B1) (fun _ _ h=>h))
 clear B1 KM T0 y0 b0
 go_wp2
 go_ret
 exact ⟨rfl,uH HL _ (uH H1)⟩
end
section
open Go.RowKit Go.Deep
variable {own:Own} {w w0:World} {bw B:Nat} {g:LG} {ps:List PairD}
theorem step_any (L:LawAt own w0 w bw B g ps) (hB:B≤800000) (hK:KeyTab w0) (hD:KindTab w0) (o:OpD) (ok:OpOK w0 o) (hk:o.kind≤16) :
    Calls Tryz.prog 7 #[.pointer (some ⟨bw,0,none⟩),o.val] w fun r w'=>r= .returned (.bool true)∧LawOn w0 bw (B+5) w':=by
 by_cases k1:o.kind=1
 ·exact step_new L hB o ok k1
 by_cases k2:o.kind=2
 ·exact step_right L o ok k2
 by_cases k3:o.kind=3
 ·exact step_pack L hK hD o ok k3
 by_cases k4:o.kind=4
 ·exact step_unpack L hK hD o ok k4
 by_cases hn:ps.length=0
 ·exact step_empty L hn o k1 k2 k3 k4
 by_cases k9:o.kind=9
 ·exact step_net L hB (by omega) o ok k9
 by_cases k11:o.kind=11
 ·exact step_ans L hB (by omega) o ok k11
 by_cases k12:o.kind=12
 ·exact step_ent L hB (by omega) o ok k12
 exact step_chg L hB (by omega) o ok hK (by unfold chgK;omega)
end
section
open Go.RowKit Go.Deep
open Tier (Mes Ans Conf St)
attribute [local go_sem ↓] Go.wp_at_zero Go.wp_at_succ
variable {own:Own} {w w0:World} {bw B:Nat} {g:LG} {ps:List PairD}
theorem Lists.look {x e m:Nat} {v:Value} {l:List Value} {X:Nat→List Value} (h:Lists own x w e m v l X):∃ a c,v= .slice a l.length c∧∀ k,k<l.length→∃ b,a=some ⟨b,0,none⟩∧∃ ua n uc,n≤1000000000∧∀ wx,Turn nO w wx→wx.cell? ⟨b,k,none⟩=some (.slice ua n uc)∧∀ j,j<n→∃ ub,ua=some ⟨ub,0,none⟩∧∀ i,i<m→wx.cell? ⟨ub,j*m+i,none⟩=(X k)[i]?:=by
  obtain ⟨a,c,hv⟩:=rowForm h.row
  refine ⟨a,c,hv,fun k hk=>?_⟩
  obtain ⟨u,hu⟩:∃ u,l[k]?=some u:=⟨_,List.getElem?_eq_getElem hk⟩
  obtain ⟨b,c',hv',_,_,hc,_⟩:=rowAt h.row (fun _=>rfl) hu
  rw [hv] at hv'
  cases hv'
  have h0:=hc 0 (by omega)
  rw [Nat.mul_one,Nat.add_zero] at h0
  obtain ⟨ua,n,uc,rfl,hn,hm⟩:=(h.marks k u hu).is
  refine ⟨b,rfl,ua,n,uc,hn,fun wx T=>⟨T.cell h0 id,fun j hj=>?_⟩⟩
  rcases hm with rfl|⟨ub,rfl,_,R⟩
  ·omega
  ·exact ⟨ub,rfl,fun i hi=>((R.heap (T.block ub R.lt id) T.size).rd j i hj hi)⟩
theorem looks_any (L:LawAt own w0 w bw B g ps) (hB:B≤900000):Calls Tryz.prog 8 #[.pointer (some ⟨bw,0,none⟩)] w fun r w'=>r= .returned (.bool true)∧Turn nO w w':=by
  have hfew:=L.few
  obtain ⟨a1,p1,hv1,H1⟩:=L.net.look
  obtain ⟨a2,p2,hv2,H2⟩:=L.ans.look
  obtain ⟨a3,p3,hv3,H3⟩:=L.ent.look
  have d1:w.cell? ⟨bw,1,none⟩=some (.slice a1 g.ln.length p1):=by rw [← hv1];exact cOf L.block 1
  have d2:w.cell? ⟨bw,2,none⟩=some (.slice a2 g.la.length p2):=by rw [← hv2];exact cOf L.block 2
  have d3:w.cell? ⟨bw,3,none⟩=some (.slice a3 g.le.length p3):=by rw [← hv3];exact cOf L.block 3
  have HB1:Hid (∀ r,r<g.ln.length→r≤1000000000):=fun r hr=>by omega
  have HB2:Hid (∀ r,r<g.la.length→r≤1000000000):=fun r hr=>by omega
  have HB3:Hid (∀ r,r<g.le.length→r≤1000000000):=fun r hr=>by omega
  have HW1:Hid (∀ r,r<g.ln.length→IntKind.i64.wrap ((r:Int)+1)=(r:Int)+1):=fun r hr=>by rw [IntKind.wrap_i64];omega
  have HW2:Hid (∀ r,r<g.la.length→IntKind.i64.wrap ((r:Int)+1)=(r:Int)+1):=fun r hr=>by rw [IntKind.wrap_i64];omega
  have HW3:Hid (∀ r,r<g.le.length→IntKind.i64.wrap ((r:Int)+1)=(r:Int)+1):=fun r hr=>by rw [IntKind.wrap_i64];omega
  have hbw:=L.lt
  generalize g.ln.length=N1 at *
  generalize g.la.length=N2 at *
  generalize g.le.length=N3 at *
  replace H1:=hide H1
  replace H2:=hide H2
  replace H3:=hide H3
  clear L hB hfew hv1 hv2 hv3
  go_enter Tryz.func8,Tryz.ntmps8
  go_wp2
  go_loopw [3,4] (fun i _ wx=>∃ r:Nat,r≤N1∧i= .int .i64 (r:Int)∧Hid (Turn nO w wx)) (fun i _ _=>N1 - (intOf i).toNat)
  case atStart=>exact ⟨0,Nat.zero_le _,rfl,Turn.refl _ _⟩
  case round =>
    obtain ⟨r1,rN1,rfl,HT1⟩:=hrel
    have d1r:=(uH HT1).cell d1 id
    have r01:(0:Int)≤(r1:Int):=by omega
    by_cases hr1:r1<N1
    ·obtain ⟨b,rfl,ua,n,uc,hn,HU⟩:=uH H1 r1 hr1
     have HN:=hide hn
     have rlt:(r1:Int)<(N1:Int):=by omega
     have hrw:IntKind.i64.wrap ((r1:Int)+1)=(r1:Int)+1:=uH HW1 r1 hr1
     have HM:=hide (mark_any r1 (uH HB1 r1 hr1))
     clear hn
     go_wp2
     go_loopw [4] (fun i wx=>∃ q:Nat,q≤n∧i= .int .i64 (q:Int)∧Hid (Turn nO w wx)) (fun i _=>n - (intOf i).toNat)
     case atStart=>exact ⟨0,Nat.zero_le _,rfl,HT1⟩
     case round =>
       clear HT1 d1r
       obtain ⟨q,qn,rfl,HTq⟩:=hrel
       have d1q:=(uH HTq).cell d1 id
       obtain ⟨u0,HV⟩:=HU _ (uH HTq)
       have q0:(0:Int)≤(q:Int):=by omega
       by_cases hq:q<n
       ·obtain ⟨ub,rfl,HC⟩:=HV q hq
        have q1:(q:Int)<(n:Int):=by omega
        have hqw:IntKind.i64.wrap ((q:Int)+1)=(q:Int)+1:=by have:=uH HN;rw [IntKind.wrap_i64];omega
        have c0:_=some (Value.int .i64 (mkI r1)):=HC 0 (by omega)
        have c1:_=some (Value.int .i64 0):=HC 1 (by omega)
        have c2:_=some (Value.int .i64 0):=HC 2 (by omega)
        have c3:_=some (Value.string ⟨#[]⟩):=HC 3 (by omega)
        have c4:_=some (Value.int .i64 0):=HC 4 (by omega)
        have c5:_=some (Value.int .i64 0):=HC 5 (by omega)
        have c6:_=some (Value.int .i64 0):=HC 6 (by omega)
        have c7:_=some (Value.int .i64 0):=HC 7 (by omega)
        have c8:_=some (Value.string ⟨#[]⟩):=HC 8 (by omega)
        rw [Nat.add_zero] at c0
        clear HV HC
        generalize mkI r1=mk at *
        go_wp2
        go_quiet ((go_at_call 21;exact Calls.quiet_of_same (uH HM _)))
        go_wp2
        exact ⟨⟨q+1,by omega,by go_num,(uH HTq).sT (turn_drewN _ _ _) (fun _ _ h=>h)⟩,by simp [intOf];omega⟩
       ·have q2:¬ (q:Int)<(n:Int):=by omega
        clear HV
        go_wp2
        exact ⟨⟨r1+1,by omega,by go_num,HTq⟩,by simp [intOf];omega⟩
    ·have r21:¬ (r1:Int)<(N1:Int):=by omega
     go_wp2
     go_loopw [5,6] (fun i _ wx=>∃ r:Nat,r≤N2∧i= .int .i64 (r:Int)∧Hid (Turn nO w wx)) (fun i _ _=>N2 - (intOf i).toNat)
     case atStart=>exact ⟨0,Nat.zero_le _,rfl,HT1⟩
     case round =>
       obtain ⟨r2,rN2,rfl,HT2⟩:=hrel
       have d2r:=(uH HT2).cell d2 id
       have r02:(0:Int)≤(r2:Int):=by omega
       by_cases hr2:r2<N2
       ·obtain ⟨b,rfl,ua,n,uc,hn,HU⟩:=uH H2 r2 hr2
        have HN:=hide hn
        have rlt:(r2:Int)<(N2:Int):=by omega
        have hrw:IntKind.i64.wrap ((r2:Int)+1)=(r2:Int)+1:=uH HW2 r2 hr2
        have HM:=hide (mark_any r2 (uH HB2 r2 hr2))
        clear hn
        go_wp2
        go_loopw [6] (fun i wx=>∃ q:Nat,q≤n∧i= .int .i64 (q:Int)∧Hid (Turn nO w wx)) (fun i _=>n - (intOf i).toNat)
        case atStart=>exact ⟨0,Nat.zero_le _,rfl,HT2⟩
        case round =>
          clear HT2 d2r
          obtain ⟨q,qn,rfl,HTq⟩:=hrel
          have d2q:=(uH HTq).cell d2 id
          obtain ⟨u0,HV⟩:=HU _ (uH HTq)
          have q0:(0:Int)≤(q:Int):=by omega
          by_cases hq:q<n
          ·obtain ⟨ub,rfl,HC⟩:=HV q hq
           have q1:(q:Int)<(n:Int):=by omega
           have hqw:IntKind.i64.wrap ((q:Int)+1)=(q:Int)+1:=by have:=uH HN;rw [IntKind.wrap_i64];omega
           have c0:_=some (Value.int .i64 0):=HC 0 (by omega)
           have c1:_=some (Value.int .i64 0):=HC 1 (by omega)
           have c2:_=some (Value.int .i64 (mkI r2)):=HC 2 (by omega)
           have c3:_=some (Value.int .i64 0):=HC 3 (by omega)
           have c4:_=some (Value.int .i64 0):=HC 4 (by omega)
           have c5:_=some (Value.string ⟨#[]⟩):=HC 5 (by omega)
           have c6:_=some (Value.int .i64 0):=HC 6 (by omega)
           rw [Nat.add_zero] at c0
           clear HV HC
           generalize mkI r2=mk at *
           go_wp2
           go_quiet ((go_at_call 21;exact Calls.quiet_of_same (uH HM _)))
           go_wp2
           exact ⟨⟨q+1,by omega,by go_num,(uH HTq).sT (turn_drewN _ _ _) (fun _ _ h=>h)⟩,by simp [intOf];omega⟩
          ·have q2:¬ (q:Int)<(n:Int):=by omega
           clear HV
           go_wp2
           exact ⟨⟨r2+1,by omega,by go_num,HTq⟩,by simp [intOf];omega⟩
       ·have r22:¬ (r2:Int)<(N2:Int):=by omega
        go_wp2
        go_loopw [7,8] (fun i _ wx=>∃ r:Nat,r≤N3∧i= .int .i64 (r:Int)∧Hid (Turn nO w wx)) (fun i _ _=>N3 - (intOf i).toNat)
        case atStart=>exact ⟨0,Nat.zero_le _,rfl,HT2⟩
        case round =>
          obtain ⟨r3,rN3,rfl,HT3⟩:=hrel
          have d3r:=(uH HT3).cell d3 id
          have r03:(0:Int)≤(r3:Int):=by omega
          by_cases hr3:r3<N3
          ·obtain ⟨b,rfl,ua,n,uc,hn,HU⟩:=uH H3 r3 hr3
           have HN:=hide hn
           have rlt:(r3:Int)<(N3:Int):=by omega
           have hrw:IntKind.i64.wrap ((r3:Int)+1)=(r3:Int)+1:=uH HW3 r3 hr3
           have HM:=hide (mark_any r3 (uH HB3 r3 hr3))
           clear hn
           go_wp2
           go_loopw [8] (fun i wx=>∃ q:Nat,q≤n∧i= .int .i64 (q:Int)∧Hid (Turn nO w wx)) (fun i _=>n - (intOf i).toNat)
           case atStart=>exact ⟨0,Nat.zero_le _,rfl,HT3⟩
           case round =>
             clear HT3 d3r
             obtain ⟨q,qn,rfl,HTq⟩:=hrel
             have d3q:=(uH HTq).cell d3 id
             obtain ⟨u0,HV⟩:=HU _ (uH HTq)
             have q0:(0:Int)≤(q:Int):=by omega
             by_cases hq:q<n
             ·obtain ⟨ub,rfl,HC⟩:=HV q hq
              have q1:(q:Int)<(n:Int):=by omega
              have hqw:IntKind.i64.wrap ((q:Int)+1)=(q:Int)+1:=by have:=uH HN;rw [IntKind.wrap_i64];omega
              have c0:_=some (Value.string ⟨#[]⟩):=HC 0 (by omega)
              have c1:_=some (Value.int .i64 (mkI r3)):=HC 1 (by omega)
              have c2:_=some (Value.int .i64 0):=HC 2 (by omega)
              have c3:_=some (Value.string ⟨#[]⟩):=HC 3 (by omega)
              have c4:_=some (Value.int .i64 0):=HC 4 (by omega)
              rw [Nat.add_zero] at c0
              clear HV HC
              generalize mkI r3=mk at *
              go_wp2
              go_quiet ((go_at_call 21;exact Calls.quiet_of_same (uH HM _)))
              go_wp2
              exact ⟨⟨q+1,by omega,by go_num,(uH HTq).sT (turn_drewN _ _ _) (fun _ _ h=>h)⟩,by simp [intOf];omega⟩
             ·have q2:¬ (q:Int)<(n:Int):=by omega
              clear HV
              go_wp2
              exact ⟨⟨r3+1,by omega,by go_num,HTq⟩,by simp [intOf];omega⟩
          ·have r23:¬ (r3:Int)<(N3:Int):=by omega
           go_wp2
           go_ret
           exact ⟨rfl,uH HT3⟩
end
end Go.Proofs.YtpdkojgepagbnaaGreatDoor
