/-
  Answers: what came out is as the document has it; then it is written over, and kept.
  A step on one of the tiers.
  Entries: what came out is as the document has it; then it is written over, and kept.
  A step on one of the tiers.
  A step that gives an error alone: both tiers give the same, and both go on as the same.
-/
import Derived.Test.YtpdkojgepagbnaaGreatDoorJ36
import Derived.Test.YtpdkojgepagbnaaGreatDoorJ43
namespace Go.Proofs.YtpdkojgepagbnaaGreatDoor
set_option maxRecDepth 100000
set_option maxHeartbeats 8000000
section
open Go.RowKit Go.Deep
open Tier (Mes Ans Conf St)
attribute [local go_sem ↓] Go.wp_at_zero Go.wp_at_succ
variable {own:Own} {w w0:World} {bw B:Nat} {g:LG} {ps:List PairD}
theorem infoLA:(Tryz.prog.info? 61).map (fun i=>(i.zero,i.size,i.bytes))=some (some (.slice none 0 0),1,24):=by kernel_rfl
theorem TierAt.answersM {τ bt b:Nat} {t:St} (h:TierAt own τ w bt b t) :
    Calls Tryz.prog 33 #[.pointer (some ⟨bt,0,none⟩)] w fun r w'=>∃ v,r= .returned v∧∃ own',TierAt own' τ w' bt b { t with answers:=[] }∧Step τ own own' w w'∧Loose own' w' 63 7 v (t.answers.map ansL)∧∀ k,v.ownBlock=some k→Mine own τ k:=by
 obtain ⟨g,s,L,S,F,R,Q⟩:=h.is
 refine (Answers_any own τ bt g s w L).mono ?_
 rintro r w' ⟨rfl,own',g',L',S',GL,R'⟩
 rw [R.answers]
 exact ⟨g.av,rfl,own',⟨⟨g',_,L',S.told,F.told,R.emptied,Q.same rfl rfl⟩⟩,S',R',fun k hk=>⟨_,L.ans.mine k hk⟩⟩
theorem lanswered_any (L:LawAt own w0 w bw B g ps) {i:Nat} {p:PairD} (hp:ps[i]?=some p) (hB:B≤800000) :
    Calls Tryz.prog 18 #[.pointer (some ⟨bw,0,none⟩),prV p.bt p.br] w fun r w'=>r= .returned (.bool true)∧LawOn w0 bw (B+5) w':=by
 obtain ⟨mi,mhi,mz0,mz1,mz2⟩:=info_parts infoAns
 obtain ⟨si,shi,sz0,sz1,sz2⟩:=info_parts infoLA
 have hT:=L.tier i p hp
 obtain ⟨rg,hR⟩:=L.refs i p hp
 obtain ⟨bt,br,t⟩:=p
 dsimp only at hT hR ⊢
 have hnl:=hT.netLen.2
 have KN:=hide (fun w' (T:Turn nO w w')=>(hT.turn T).answersM)
 have HL0:=hide (And.intro L (And.intro hT hR))
 obtain ⟨na,nc,hnv⟩:=rowForm L.ans.row
 have HNV:=hide hnv
 have HHP:=hide hp
 have HBB:=hide hB
 clear L hT hR hp hB hnv
 unfold prV
 go_enter Tryz.func18,Tryz.ntmps18
 go_wp2_with fail
 generalize hW:World.alloc _ _=W0
 have T0:Turn nO w W0:=by rw [← hW];exact Turn.alloc _ _ _
 have b0:W0.heap[w.heap.size]?=some (.cells #[.pointer (some ⟨bt,0,none⟩),.pointer (some ⟨br,0,none⟩)] 54 (0,0)):=by rw [← hW];exact new1_0 _ _
 clear hW
 refine (uH KN W0 T0).mono ?_
 rintro e w1 ⟨v,rfl,own2,A1,S1,R1,M1⟩
 have x1:w1.cell? ⟨w.heap.size,1,none⟩=some (.pointer (some ⟨br,0,none⟩)):=S1.cell (cOf b0 1) ((uH HL0).1.top _ (Nat.le_refl _))
 have hR1:RLies own2 (2*i+2) w1 br rg t:=((uH HL0).2.2.turn T0).frame (S1.other (by omega)) A1.top
 have KT:=hide (rTold_any hR1)
 obtain ⟨la,lc,hv⟩:=row_form R1.row
 rw [List.length_map] at hv
 subst hv
 have H1:=hide (And.intro T0 (And.intro A1 (And.intro S1 (And.intro R1 M1))))
 clear T0 A1 S1 R1 M1 hR1 b0 KN
 go_wp2_with fail
 refine (uH KT).mono ?_
 rintro e V ⟨v2,rfl,own1,g2,R2,S2,L2⟩
 obtain ⟨T0,A1,S1,R1,M1⟩:=uH H1
 obtain ⟨ma,mc,hv2⟩:=row_form L2.row
 rw [List.length_map] at hv2
 subst hv2
 have R1':=R1.step S2
 have HEL:Hid (∀ r,r<t.answers.length→∃ node aid kind ver pres val age,∃ lb mb:Nat,la=some ⟨lb,0,none⟩∧ma=some ⟨mb,0,none⟩∧(∀ i,i<7→V.cell? ⟨lb,r*7+i,none⟩=([.int .i64 node,.int .i64 aid,.int .i64 kind,.int .i64 ver,.int .i64 pres,.string val,.int .i64 age]:List Value)[i]?)∧∀ i,i<7→V.cell? ⟨mb,r*7+i,none⟩=([.int .i64 node,.int .i64 aid,.int .i64 kind,.int .i64 ver,.int .i64 pres,.string val,.int .i64 age]:List Value)[i]?):=fun r hr=>by
   obtain ⟨x,hx⟩:∃ x,t.answers[r]?=some x:=⟨_,List.getElem?_eq_getElem hr⟩
   obtain ⟨lb,lc',h1,_,_,h2⟩:=looseAt R1' (fun _=>rfl) hx
   obtain ⟨mb,mc',h3,_,_,h4⟩:=looseAt L2 (fun _=>rfl) hx
   cases h1
   cases h3
   exact ⟨_,_,_,_,_,_,_,lb,mb,rfl,rfl,h2,h4⟩
 have HF:Hid (∀ k,(Value.slice la t.answers.length lc).ownBlock=some k→own1 k=none):=R1'.free
 have HLAW:Hid (∀ wx,Turn (fun k=>(Value.slice la t.answers.length lc).ownBlock=some k) V wx→LawAt own1 w0 wx bw B g (ps.set i ⟨bt,br,{ t with answers:=[] }⟩)):=fun wx T=>by
   obtain ⟨L,hT,hR⟩:=uH HL0
   exact L.loosed (p:=⟨bt,br,t⟩) (uH HHP) (v:= .slice la t.answers.length lc) (w1:=V) ⟨⟨own2,w1,(Step.of_turn T0).trans S1,S2⟩,A1.frame (S2.other (by omega)) R2.top,⟨g2,R2⟩⟩ (fun k hk=>⟨uH HF k hk,fun _=>M1 k hk⟩) T
 have HTOP:Hid (∀ k,V.heap.size≤k→own1 k=none):=R2.top
 have HO:Hid (V.ownsRow 0 63 7 (.slice la t.answers.length lc) t.answers.length (t.answers.map ansL).flatten):=by
   have:=R1'.row
   rw [List.length_map] at this
   exact this
 have HOLD:Hid (∀ k,(Value.slice na g.la.length nc).ownBlock=some k→own1 k=some (0,4)):=fun k hk=>(uH HLAW V (Turn.refl _ _)).ans.row.mine k (by rw [uH HNV];exact hk)
 have HNO:Hid (¬ (Value.slice na g.la.length nc).ownBlock=some bw):=fun e=>by
   have h1:=uH HOLD bw e
   rw [(uH HLAW V (Turn.refl _ _)).blockO] at h1
   cases h1
 have HDN:Hid (∀ wx,Turn (fun k=>(Value.slice la t.answers.length lc).ownBlock=some k) V wx→wx.cell? ⟨bw,2,none⟩=some (.slice na g.la.length nc)∧wx.frozen? ⟨bw,2,none⟩=false):=fun wx T=>⟨by rw [← uH HNV];exact cOf (uH HLAW wx T).block 2,fOf (uH HLAW wx T).block 2⟩
 have HNR:Hid (∀ wx,Turn (fun k=>(Value.slice la t.answers.length lc).ownBlock=some k) V wx→wx.ownsRow 0 61 1 (.slice na g.la.length nc) g.la.length g.la):=fun wx T=>by
   have:=(uH HLAW wx T).ans.row.row
   rw [List.length_map,uH HNV,flat_ones] at this
   exact this
 have KM:=hide (mark_any g.la.length (by have:=(uH HL0).1.few;have:=uH HBB;omega))
 have HNB:Hid (g.la.length≤900000):=by have:=(uH HL0).1.few;have:=uH HBB;show _≤_;omega
 have HNL:Hid (t.answers.length≤900000):=by have:=uH HBB;show _≤_;omega
 have HW:Hid (∀ r,r<t.answers.length→IntKind.i64.wrap ((r:Int)+1)=(r:Int)+1):=fun r hr=>by have:=uH HNL;rw [IntKind.wrap_i64];omega
 have HXX:Hid (xA g.la.length=[.int .i64 0,.int .i64 0,.int .i64 (mkI g.la.length),.int .i64 0,.int .i64 0,.string ⟨#[]⟩,.int .i64 0]):=rfl
 have HLS:Hid (g.la.length=g.la.length):=rfl
 generalize hN:g.la.length=N at *
 generalize hls:g.la=ls at *
 generalize mkI N=mk at *
 generalize hn:t.answers.length=n at *
 clear R1 T0 A1 S1 M1 R2 S2 L2 R1' H1 hnl HHP HL0 HLS HBB KT x1
 go_wp2
 go_loopw [7,8] (fun s i wr=>∃ r:Nat,r≤n∧s= .bool true∧i= .int .i64 (r:Int)∧Hid (Turn nO V wr)) (fun _ i _=>n - (intOf i).toNat)
 case atStart=>exact ⟨0,Nat.zero_le _,rfl,rfl,Turn.refl _ _⟩
 case round =>
   obtain ⟨r,rn,rfl,rfl,HTr⟩:=hrel
   have r0:(0:Int)≤(r:Int):=by omega
   by_cases hr:r<n
   ·obtain ⟨node,aid,kind,ver,pres,val,age,lb,mb,rfl,rfl,CE,DE⟩:=uH HEL r hr
    have rlt:(r:Int)<(n:Int):=by omega
    have hrw:IntKind.i64.wrap ((r:Int)+1)=(r:Int)+1:=uH HW r hr
    have c0:wr.cell? ⟨lb,r*7,none⟩=some (.int .i64 node):=(uH HTr).cell (CE 0 (by omega)) id
    have c1:wr.cell? ⟨lb,r*7+1,none⟩=some (.int .i64 aid):=(uH HTr).cell (CE 1 (by omega)) id
    have c2:wr.cell? ⟨lb,r*7+2,none⟩=some (.int .i64 kind):=(uH HTr).cell (CE 2 (by omega)) id
    have c3:wr.cell? ⟨lb,r*7+3,none⟩=some (.int .i64 ver):=(uH HTr).cell (CE 3 (by omega)) id
    have c4:wr.cell? ⟨lb,r*7+4,none⟩=some (.int .i64 pres):=(uH HTr).cell (CE 4 (by omega)) id
    have c5:wr.cell? ⟨lb,r*7+5,none⟩=some (.string val):=(uH HTr).cell (CE 5 (by omega)) id
    have c6:wr.cell? ⟨lb,r*7+6,none⟩=some (.int .i64 age):=(uH HTr).cell (CE 6 (by omega)) id
    have d0:wr.cell? ⟨mb,r*7,none⟩=some (.int .i64 node):=(uH HTr).cell (DE 0 (by omega)) id
    have d1:wr.cell? ⟨mb,r*7+1,none⟩=some (.int .i64 aid):=(uH HTr).cell (DE 1 (by omega)) id
    have d2:wr.cell? ⟨mb,r*7+2,none⟩=some (.int .i64 kind):=(uH HTr).cell (DE 2 (by omega)) id
    have d3:wr.cell? ⟨mb,r*7+3,none⟩=some (.int .i64 ver):=(uH HTr).cell (DE 3 (by omega)) id
    have d4:wr.cell? ⟨mb,r*7+4,none⟩=some (.int .i64 pres):=(uH HTr).cell (DE 4 (by omega)) id
    have d5:wr.cell? ⟨mb,r*7+5,none⟩=some (.string val):=(uH HTr).cell (DE 5 (by omega)) id
    have d6:wr.cell? ⟨mb,r*7+6,none⟩=some (.int .i64 age):=(uH HTr).cell (DE 6 (by omega)) id
    clear CE DE
    go_wp2
    go_quiet (fail)
    go_wp2
    exact ⟨⟨r+1,by omega,rfl,by go_num,(uH HTr).sT (turn_drewN _ _ _) (fun _ _ h=>h)⟩,by simp [intOf];omega⟩
   ·have rge:¬ (r:Int)<(n:Int):=by omega
    have dn:wr.cell? ⟨bw,2,none⟩=some (.slice na N nc):=(uH HDN wr ((uH HTr).mono (fun _ _ h=>h.elim))).1
    clear HEL
    go_wp2_with fail
    refine (uH KM wr).mono ?_
    rintro e wm ⟨rfl,hwm⟩
    subst hwm
    obtain ⟨bx,hbx⟩:∃ bx,bx=wm.heap.size:=⟨_,rfl⟩
    go_wp2
    generalize hX0:World.alloc _ _=X0
    have hxb:X0.heap[bx]?=some (.cells #[.int .i64 0,.int .i64 0,.int .i64 mk,.int .i64 0,.int .i64 0,.string ⟨#[]⟩,.int .i64 0] 63 (0,0)):=by rw [← hX0,hbx];exact new1_0 _ _
    have hbV:V.heap.size≤bx:=by rw [hbx];exact (uH HTr).size
    have TX:Turn nO V X0:=by rw [← hX0];exact (uH HTr).sA
    rw [← hbx]
    have HM0:Hid (Turn (fun k=>(Value.slice la n lc).ownBlock=some k) V X0∧X0.heap[bx]?=some (.cells #[.int .i64 0,.int .i64 0,.int .i64 mk,.int .i64 0,.int .i64 0,.string ⟨#[]⟩,.int .i64 0] 63 (0,0))∧Marked X0 63 7 (.slice la n lc) n 0 [.int .i64 0,.int .i64 0,.int .i64 mk,.int .i64 0,.int .i64 0,.string ⟨#[]⟩,.int .i64 0]):=⟨TX.mono (fun _ _ h=>h.elim),hxb,(Marked.start (uH HO) _).turn TX (fun _ _ h=>h)⟩
    have HVL:Hid (∀ k,(Value.slice la n lc).ownBlock=some k→k<bx):=fun k hk=>Nat.lt_of_lt_of_le ((uH HO).lt k hk).2 hbV
    clear hX0 hxb TX hbx hbV dn HO KM HTr
    go_loopw [10] (fun i wy=>∃ r:Nat,r≤n∧i= .int .i64 (r:Int)∧Hid (Turn (fun k=>(Value.slice la n lc).ownBlock=some k) V wy∧wy.heap[bx]?=some (.cells #[.int .i64 0,.int .i64 0,.int .i64 mk,.int .i64 0,.int .i64 0,.string ⟨#[]⟩,.int .i64 0] 63 (0,0))∧Marked wy 63 7 (.slice la n lc) n r [.int .i64 0,.int .i64 0,.int .i64 mk,.int .i64 0,.int .i64 0,.string ⟨#[]⟩,.int .i64 0])) (fun i _=>n - (intOf i).toNat)
    case atStart=>exact ⟨0,Nat.zero_le _,rfl,HM0⟩
    case round =>
      clear HM0
      obtain ⟨q,qn,rfl,HQ⟩:=hrel
      have q0:(0:Int)≤(q:Int):=by omega
      obtain ⟨y0,y1,y2,y3,y4,y5,y6⟩:=cC7 (uH HQ).2.1
      by_cases hq:q<n
      ·obtain ⟨g0,c0,e0,hg0,hcs,hfz⟩:=(uH HQ).2.2.at_ hq
       injection e0 with e1 e2 e3
       subst e1
       subst e3
       have qlt:(q:Int)<(n:Int):=by omega
       have hqw:IntKind.i64.wrap ((q:Int)+1)=(q:Int)+1:=uH HW q hq
       have hgx:g0<bx:=uH HVL g0 rfl
       have hgne:g0≠bx:=by omega
       obtain ⟨u0,z0⟩:=hcs 0 (by omega)
       obtain ⟨u1,z1⟩:=hcs 1 (by omega)
       obtain ⟨u2,z2⟩:=hcs 2 (by omega)
       obtain ⟨u3,z3⟩:=hcs 3 (by omega)
       obtain ⟨u4,z4⟩:=hcs 4 (by omega)
       obtain ⟨u5,z5⟩:=hcs 5 (by omega)
       obtain ⟨u6,z6⟩:=hcs 6 (by omega)
       rw [Nat.add_zero] at z0
       have f0:=hfz (q*7)
       have f1:=hfz (q*7+1)
       have f2:=hfz (q*7+2)
       have f3:=hfz (q*7+3)
       have f4:=hfz (q*7+4)
       have f5:=hfz (q*7+5)
       have f6:=hfz (q*7+6)
       clear hcs hfz
       go_wp2
       refine ⟨⟨q+1,by omega,by go_num,?_⟩,by simp [intOf];omega⟩
       obtain ⟨T1,hx1,M1⟩:=uH HQ
       exact Marked.all7 T1 rfl (fun e=>hgne e.symm) hx1 M1 hq
      ·have qge:¬ (q:Int)<(n:Int):=by omega
       have hqn:n=q:=by omega
       obtain ⟨TQ,hxq,MQ⟩:=uH HQ
       rename World=>wq
       rw [← hqn] at MQ
       have RQ:=hide (MQ.done rfl (by decide))
       have HTQ:=hide TQ
       have HXQ:=hide hxq
       have hbq:bx<wq.heap.size:=heap_lt hxq
       have hbn:Hid (¬ (Value.slice la n lc).ownBlock=some bx):=fun e=>by have:=uH HVL bx e;omega
       clear TQ hxq MQ HQ hqn
       go_wp2_with (at_builtin;refine wpList_append_marks _ (by rfl) _ _ _ (by rfl) 0 63 mi _ 7 64 Tryz.underlying61 mhi mz0 mz1 mz2 rfl (by omega) (.slice la n lc) n [.int .i64 0,.int .i64 0,.int .i64 mk,.int .i64 0,.int .i64 0,.string ⟨#[]⟩,.int .i64 0] rfl ?c1x1 ?c1x2 ?c1x3 ⟨wq.heap.size,0,none⟩ 1 1 ?c1x4 (news_rep #[.int .i64 0,.int .i64 0,.int .i64 mk,.int .i64 0,.int .i64 0,.string ⟨#[]⟩,.int .i64 0] rfl (new1_0 wq _)) ?c1x6 ?c1x7 ?c1x8 ?c1x9 ?_)
       try (case c1x1=>simp [Value.oneCell'])
       try (case c1x2=>rfl)
       try (case c1x3=>exact (uH RQ).alloc _)
       try (case c1x4=>rfl)
       try (case c1x6=>omega)
       try (case c1x7=>have:=uH HNL;unfold maxLen;omega)
       try (case c1x8=>have:=uH HNL;omega)
       try (case c1x9=>exact Nat.zero_le _)
       intro g1 cap1 w5 R1 T1 D1 A1 K1
       have HT1:=hide ((uH HTQ).sA.sT T1 (fun _ _ e=>e.symm))
       have hxk:w5.heap[bx]?=some (.cells #[.int .i64 0,.int .i64 0,.int .i64 mk,.int .i64 0,.int .i64 0,.string ⟨#[]⟩,.int .i64 0] 63 (0,0)):=(T1.block bx (by simp;omega) (fun e=>uH hbn e.symm)).trans (((Turn.alloc nO wq _).block bx hbq id).trans (uH HXQ))
       have HR1:=hide R1
       have HA1:Hid ((Value.slice la n lc).ownBlock=some g1∨V.heap.size≤g1):=A1.imp id (fun e=>by rw [e];have:=(uH HTQ).size;simp;omega)
       have HSZ1:wq.heap.size+1≤w5.heap.size:=by have:=T1.size;simpa using this
       have HD1_1:=hide D1
       have HXQ1:=hide hxk
       have hbq:bx<w5.heap.size:=heap_lt hxk
       obtain ⟨y0,y1,y2,y3,y4,y5,y6⟩:=cC7 hxk
       clear R1 T1 D1 A1 K1 hxk RQ HTQ
       go_wp2_with (at_builtin;refine wpList_append_marks _ (by rfl) _ _ _ (by rfl) 0 63 mi _ 7 64 Tryz.underlying61 mhi mz0 mz1 mz2 rfl (by omega) (.slice la n lc) n [.int .i64 0,.int .i64 0,.int .i64 mk,.int .i64 0,.int .i64 0,.string ⟨#[]⟩,.int .i64 0] rfl ?c2x1 ?c2x2 ?c2x3 ⟨w5.heap.size,0,none⟩ 2 2 ?c2x4 (news_rep #[.int .i64 0,.int .i64 0,.int .i64 mk,.int .i64 0,.int .i64 0,.string ⟨#[]⟩,.int .i64 0,.int .i64 0,.int .i64 0,.int .i64 mk,.int .i64 0,.int .i64 0,.string ⟨#[]⟩,.int .i64 0] rfl (new1_0 w5 _)) ?c2x6 ?c2x7 ?c2x8 ?c2x9 ?_)
       try (case c2x1=>simp [Value.oneCell'])
       try (case c2x2=>rfl)
       try (case c2x3=>exact (uH HR1).alloc _)
       try (case c2x4=>rfl)
       try (case c2x6=>omega)
       try (case c2x7=>have:=uH HNL;unfold maxLen;omega)
       try (case c2x8=>have:=uH HNL;omega)
       try (case c2x9=>exact Nat.zero_le _)
       intro g2 cap2 w6 R2 T2 D2 A2 K2
       have HT2:=hide ((uH HT1).sA.sT T2 (fun _ _ e=>e.symm))
       have hxk:w6.heap[bx]?=some (.cells #[.int .i64 0,.int .i64 0,.int .i64 mk,.int .i64 0,.int .i64 0,.string ⟨#[]⟩,.int .i64 0] 63 (0,0)):=(T2.block bx (by simp;omega) (fun e=>uH hbn e.symm)).trans (((Turn.alloc nO w5 _).block bx hbq id).trans (uH HXQ1))
       have HR2:=hide R2
       have HA2:Hid ((Value.slice la n lc).ownBlock=some g2∨V.heap.size≤g2):=A2.imp id (fun e=>by rw [e];have:=(uH HT1).size;simp;omega)
       have HSZ2:w5.heap.size+1≤w6.heap.size:=by have:=T2.size;simpa using this
       have HD1_2:=hide (K2 g1 (n+1) (by omega) ((uH HD1_1).heap ((Turn.alloc nO w5 _).block _ (uH HD1_1).lt id) (by simp)))
       have HD2_2:=hide D2
       have HXQ2:=hide hxk
       have hbq:bx<w6.heap.size:=heap_lt hxk
       obtain ⟨y0,y1,y2,y3,y4,y5,y6⟩:=cC7 hxk
       clear R2 T2 D2 A2 K2 hxk HR1 HT1 HD1_1
       go_wp2_with (at_builtin;refine wpList_append_marks _ (by rfl) _ _ _ (by rfl) 0 63 mi _ 7 64 Tryz.underlying61 mhi mz0 mz1 mz2 rfl (by omega) (.slice la n lc) n [.int .i64 0,.int .i64 0,.int .i64 mk,.int .i64 0,.int .i64 0,.string ⟨#[]⟩,.int .i64 0] rfl ?c3x1 ?c3x2 ?c3x3 ⟨w6.heap.size,0,none⟩ 3 3 ?c3x4 (news_rep #[.int .i64 0,.int .i64 0,.int .i64 mk,.int .i64 0,.int .i64 0,.string ⟨#[]⟩,.int .i64 0,.int .i64 0,.int .i64 0,.int .i64 mk,.int .i64 0,.int .i64 0,.string ⟨#[]⟩,.int .i64 0,.int .i64 0,.int .i64 0,.int .i64 mk,.int .i64 0,.int .i64 0,.string ⟨#[]⟩,.int .i64 0] rfl (new1_0 w6 _)) ?c3x6 ?c3x7 ?c3x8 ?c3x9 ?_)
       try (case c3x1=>simp [Value.oneCell'])
       try (case c3x2=>rfl)
       try (case c3x3=>exact (uH HR2).alloc _)
       try (case c3x4=>rfl)
       try (case c3x6=>omega)
       try (case c3x7=>have:=uH HNL;unfold maxLen;omega)
       try (case c3x8=>have:=uH HNL;omega)
       try (case c3x9=>exact Nat.zero_le _)
       intro g3 cap3 w7 R3 T3 D3 A3 K3
       have HT3:=hide ((uH HT2).sA.sT T3 (fun _ _ e=>e.symm))
       have hxk:w7.heap[bx]?=some (.cells #[.int .i64 0,.int .i64 0,.int .i64 mk,.int .i64 0,.int .i64 0,.string ⟨#[]⟩,.int .i64 0] 63 (0,0)):=(T3.block bx (by simp;omega) (fun e=>uH hbn e.symm)).trans (((Turn.alloc nO w6 _).block bx hbq id).trans (uH HXQ2))
       have HR3:=hide R3
       have HA3:Hid ((Value.slice la n lc).ownBlock=some g3∨V.heap.size≤g3):=A3.imp id (fun e=>by rw [e];have:=(uH HT2).size;simp;omega)
       have HSZ3:w6.heap.size+1≤w7.heap.size:=by have:=T3.size;simpa using this
       have HD1_3:=hide (K3 g1 (n+1) (by omega) ((uH HD1_2).heap ((Turn.alloc nO w6 _).block _ (uH HD1_2).lt id) (by simp)))
       have HD2_3:=hide (K3 g2 (n+2) (by omega) ((uH HD2_2).heap ((Turn.alloc nO w6 _).block _ (uH HD2_2).lt id) (by simp)))
       have HD3_3:=hide D3
       have HXQ3:=hide hxk
       have hbq:bx<w7.heap.size:=heap_lt hxk
       obtain ⟨y0,y1,y2,y3,y4,y5,y6⟩:=cC7 hxk
       clear R3 T3 D3 A3 K3 hxk HR2 HT2 HD1_2 HD2_2
       obtain ⟨dn,fn⟩:=uH HDN w7 (uH HT3)
       go_wp2_with (at_builtin;refine wpList_append_lies _ (by rfl) _ _ _ (by rfl) 0 61 si _ 1 24 Tryz.underlying28 shi sz0 sz1 sz2 rfl (by omega) (.slice na N nc) N ls ?e1 ?e2 ⟨w7.heap.size,0,none⟩ 4 4 [.slice la n lc,.slice (some ⟨g1,0,none⟩) (n+1) cap1,.slice (some ⟨g2,0,none⟩) (n+2) cap2,.slice (some ⟨g3,0,none⟩) (n+3) cap3] ?e3 ?e4 ?e5 ?e6 ?e7 ?e8 ?e9 ?e10 (w7.heap.size+1) ?e11 ?_)
       try (case e1=>rfl)
       try (case e2=>exact (uH HNR w7 (uH HT3)).alloc _)
       try (case e3=>rfl)
       try (case e4=>rfl)
       try (case e5=>exact World.news_of_block (cs:=#[.slice la n lc,.slice (some ⟨g1,0,none⟩) (n+1) cap1,.slice (some ⟨g2,0,none⟩) (n+2) cap2,.slice (some ⟨g3,0,none⟩) (n+3) cap3]) (t:=61) (fr:=(0,0)) (new1_0 w7 _))
       try (case e6=>simp [Value.oneCell'])
       try (case e7=>omega)
       try (case e8=>have:=uH HNB;unfold maxLen;omega)
       try (case e9=>have:=uH HNB;omega)
       try (case e10=>exact Nat.zero_le _)
       try (case e11=>simp)
       intro gb cap w8 hown hgrow hat hlt
       have hbw7:bw<w7.heap.size:=cell_lt dn
       have hno:some bw≠(Value.slice na N nc).ownBlock:=fun e=>uH HNO e.symm
       have q1:w8.cell? ⟨bw,2,none⟩=some (.slice na N nc):=(hgrow.cell_far ⟨bw,2,none⟩ (by simp;omega) hno).trans ((Turn.alloc nO w7 _).cell dn id)
       have q2:w8.frozen? ⟨bw,2,none⟩=false:=(hgrow.frozen_far ⟨bw,2,none⟩ (by simp;omega) hno).trans ((Turn.alloc nO w7 _).froz dn id fn)
       have HG:=hide (And.intro hown (And.intro hgrow (And.intro hat hlt)))
       clear hown hgrow hat hlt dn fn
       go_wp2
       go_ret
       refine ⟨rfl,?_⟩
       obtain ⟨hown,hgrow,hat,hlt⟩:=uH HG
       have L7:=(uH HLAW w7 (uH HT3)).turn (Turn.alloc nO w7 (.cells #[.slice la n lc,.slice (some ⟨g1,0,none⟩) (n+1) cap1,.slice (some ⟨g2,0,none⟩) (n+2) cap2,.slice (some ⟨g3,0,none⟩) (n+3) cap3] 61 (0,0)))
       have hfree:∀ k,(Value.slice la n lc).ownBlock=some k∨V.heap.size≤k→own1 k=none:=fun k hk=>hk.elim (uH HF k) (uH HTOP k)
       have A7:Turn nO w7 (w7.alloc (.cells #[.slice la n lc,.slice (some ⟨g1,0,none⟩) (n+1) cap1,.slice (some ⟨g2,0,none⟩) (n+2) cap2,.slice (some ⟨g3,0,none⟩) (n+3) cap3] 61 (0,0))):=Turn.alloc nO w7 _
       have hnl:=uH HNL
       obtain ⟨G1,hne,hbk,hgb⟩:=L7.appended (x:=4) (old:= .slice na N nc) (n:=N+4) (cap:=cap) (uH HOLD) (by decide) hgrow (hat.imp id (fun e=>by rw [e];simp)) hlt 2 (.slice (some ⟨gb,0,none⟩) (N+4) cap)
       refine ⟨_,_,_,L7.pushAns (v:= .slice (some ⟨gb,0,none⟩) (N+4) cap) (a:= .slice la n lc) (b:= .slice (some ⟨g1,0,none⟩) (n+1) cap1) (c:= .slice (some ⟨g2,0,none⟩) (n+2) cap2) (d:= .slice (some ⟨g3,0,none⟩) (n+3) cap3) (by rw [uH HNV];exact G1) ?_ ?_ ?_ ?_ ?_ ?_⟩
       ·rw [hbk];rfl
       ·rw [hls,hN]
        exact owns_one hown hgb
       ·rw [hls,hN,uH HXX]
        exact (mark_of (own:=own1) (uH HR3) rfl (by omega) (fun k hk=>hfree k (Or.inl hk))).frame A7.size (fun k hk ho=>⟨A7.block k hk id,ho⟩)
       ·rw [hls,hN,uH HXX]
        exact (mark_rd (own:=own1) (uH HD1_3) (by omega) (hfree g1 (uH HA1))).frame A7.size (fun k hk ho=>⟨A7.block k hk id,ho⟩)
       ·rw [hls,hN,uH HXX]
        exact (mark_rd (own:=own1) (uH HD2_3) (by omega) (hfree g2 (uH HA2))).frame A7.size (fun k hk ho=>⟨A7.block k hk id,ho⟩)
       ·rw [hls,hN,uH HXX]
        exact (mark_rd (own:=own1) (uH HD3_3) (by omega) (hfree g3 (uH HA3))).frame A7.size (fun k hk ho=>⟨A7.block k hk id,ho⟩)
theorem step_ans (L:LawAt own w0 w bw B g ps) (hB:B≤800000) (hn:0<ps.length) (o:OpD) (ok:OpOK w0 o) (hk:o.kind=11) :
    Calls Tryz.prog 7 #[.pointer (some ⟨bw,0,none⟩),o.val] w fun r w'=>r= .returned (.bool true)∧LawOn w0 bw (B+5) w':=by
 have hpl:ps.length≤800000:=Nat.le_trans L.few.1 hB
 obtain ⟨j,hj⟩:∃ j:Nat,pickL o.on (ps.length:Int)=(j:Int):=⟨(pickL o.on (ps.length:Int)).toNat,by have:=pickL_ok o.on (n:=(ps.length:Int)) (by omega);omega⟩
 have hjl:j<ps.length:=by have:=pickL_ok o.on (n:=(ps.length:Int)) (by omega);omega
 obtain ⟨p,hp⟩:∃ p,ps[j]?=some p:=⟨_,List.getElem?_eq_getElem hjl⟩
 have KP:=hide (fun w'=>pickL_any o.on (ps.length:Int) w' ok.on (by omega))
 rw [hj] at KP
 obtain ⟨nb,nc,hnv,_,hnb,hcs,_⟩:=rowAt L.prs (fun _=>rfl) hp
 have d0:w.cell? ⟨bw,0,none⟩=some (.slice (some ⟨nb,0,none⟩) ps.length nc):=by rw [← hnv];exact cOf L.block 0
 obtain ⟨c0,c1⟩:=rC2 hcs
 have hbw:=L.lt
 have j0:(0:Int)≤(j:Int):=by omega
 have j1:(j:Int)<(ps.length:Int):=by omega
 have n0:¬ (ps.length:Int)=0:=by omega
 have KM:=hide (fun w' (T:Turn nO w w')=>lanswered_any (L.turn T) hp hB)
 obtain ⟨kind,on,a_,b_,s_,t_,pa,pc,zs,dr,bu,en,wa,m⟩:=o
 obtain ⟨bt,br,t⟩:=p
 dsimp only at *
 subst hk
 generalize ps.length=N at *
 clear L ok hB hnv hcs hp hpl hj
 unfold prV at KM
 unfold OpD.val OpD.cells opC at *
 dsimp only at *
 go_enter Tryz.func7,Tryz.ntmps7
 go_upto_region 1 with fail
 generalize hW:World.alloc _ _=W0
 have T0:Turn nO w W0:=by rw [← hW];exact Turn.alloc _ _ _
 have b0:W0.heap[w.heap.size]?=some (.cells (opC 11 on a_ b_ s_ t_ pa zs.length pc dr bu en wa m) 39 (0,0)):=by rw [← hW];exact new1_0 _ _
 unfold opC at b0
 clear hW
 have y0:W0.cell? ⟨w.heap.size,0,none⟩=some (.int .i64 11):=cOf b0 0
 have y1:W0.cell? ⟨w.heap.size,1,none⟩=some (.int .i64 on):=cOf b0 1
 have y2:W0.cell? ⟨w.heap.size,2,none⟩=some (.int .i64 a_):=cOf b0 2
 have e0:=T0.cell d0 id
 have e1:=T0.cell c0 id
 have e2:=T0.cell c1 id
 clear d0 c0 c1 b0
 go_wp2
 have HS:=fun w' (T:Turn nO W0 w')=>And.intro T (And.intro (T.cell e0 id) (And.intro (T.cell y1 id) (And.intro (T.cell e1 id) (T.cell e2 id))))
 go_region_held3 (fun w'=>Turn nO W0 w'∧w'.cell? ⟨bw,0,none⟩=some (.slice (some ⟨nb,0,none⟩) N nc)∧w'.cell? ⟨w.heap.size,1,none⟩=some (.int .i64 on)∧w'.cell? ⟨nb,j*2,none⟩=some (.pointer (some ⟨bt,0,none⟩))∧w'.cell? ⟨nb,j*2+1,none⟩=some (.pointer (some ⟨br,0,none⟩))) ((go_split_ands;apply HS;all_goals (repeat (first|(with_reducible first|assumption|exact Turn.refl _ _|apply Turn.sA|apply Turn.sD|refine tN ?_ (by assumption))|((with_reducible refine Turn.sS ?_ ?_);rotate_left;· first|exact Or.inr rfl|exact Or.inr (Or.inl rfl)|exact Or.inl (by simp <;> omega))|(with_reducible refine tG ?_ (by assumption))|(with_reducible first|apply There.drew|apply There.set|refine hNo ?_ (by assumption))|assumption)))) ((go_at_call 16;go_split_ands;refine (uH KP _).mono ?_;rintro e w' ⟨rfl,rfl⟩))
 all_goals (
   clear HS KP
   generalize hW5:World.drew _=W5
   have T5:Turn nO W0 W5:=by rw [← hW5];exact (Turn.alloc _ _ _).sD
   have bp:W5.heap[W0.heap.size]?=some (.cells #[.pointer (some ⟨bt,0,none⟩),.pointer (some ⟨br,0,none⟩)] 54 (0,0)):=by rw [← hW5];exact new1_0 _ _
   clear hW5
   obtain ⟨z0,z1⟩:=cC2 bp
   have v0:W5.cell? ⟨w.heap.size,0,none⟩=some (.int .i64 11):=T5.cell y0 id
   have v1:W5.cell? ⟨w.heap.size,1,none⟩=some (.int .i64 on):=T5.cell y1 id
   have v2:W5.cell? ⟨w.heap.size,2,none⟩=some (.int .i64 a_):=T5.cell y2 id
   have KM5:=hide (uH KM W5 (T0.sT T5 (fun _ _ h=>h)))
   clear T5 T0 bp KM
   go_wp2_with fail
   refine (uH KM5).mono ?_
   rintro e w9 ⟨rfl,h9⟩
   have H9:=hide h9
   clear h9 KM5
   go_wp2
   go_ret
   exact ⟨rfl,uH H9⟩)
theorem infoLE:(Tryz.prog.info? 64).map (fun i=>(i.zero,i.size,i.bytes))=some (some (.slice none 0 0),1,24):=by kernel_rfl
theorem entS_is {t:St} {n:Int} {l:List Value} (h:l∈entS t n):∃ key ver pres val age,l=[.string key,.int .i64 ver,.int .i64 pres,.string val,.int .i64 age]:=by
  unfold entS at h
  split at h
  ·cases h
  ·obtain ⟨e,_,rfl⟩:=List.mem_map.1 h
   exact ⟨_,_,_,_,_,rfl⟩
theorem owns_at {w:World} {base e m n:Nat} {v:Value} {l:List (List Value)} (h:w.ownsRow base e m v l.length l.flatten) (hn:l.length=n) (hm:∀ a∈l,a.length=m) {j:Nat} {a:List Value} (hj:l[j]?=some a):∃ b c,v= .slice (some ⟨b,0,none⟩) n c∧∀ i,i<m→w.cell? ⟨b,j*m+i,none⟩=a[i]?:=by
  subst hn
  have hlen:j<l.length:=(List.getElem?_eq_some_iff.1 hj).1
  obtain ⟨b,c,rfl,_,_⟩:=h.form (by omega)
  refine ⟨b,c,rfl,fun i hi=>?_⟩
  have h1:j*m+i<l.length*m:=by
    have:(j+1)*m≤l.length*m:=Nat.mul_le_mul_right m hlen
    rw [Nat.succ_mul] at this
    omega
  rw [h.cellAt _ h1]
  exact flatten_get l j i a hm hj hi
theorem lkept_any (L:LawAt own w0 w bw B g ps) {i:Nat} {p:PairD} (hp:ps[i]?=some p) (hB:B≤800000) (nd:Int) :
    Calls Tryz.prog 19 #[.pointer (some ⟨bw,0,none⟩),prV p.bt p.br,.int .i64 nd] w fun r w'=>r= .returned (.bool true)∧LawOn w0 bw (B+5) w':=by
 obtain ⟨mi,mhi,mz0,mz1,mz2⟩:=info_parts infoEntryR
 obtain ⟨si,shi,sz0,sz1,sz2⟩:=info_parts infoLE
 have hT:=L.tier i p hp
 obtain ⟨rg,hR⟩:=L.refs i p hp
 obtain ⟨bt,br,t⟩:=p
 dsimp only at hT hR ⊢
 have hF:=hT.fit (by omega)
 have hnl:(entS t nd).length≤1000000:=by
   unfold entS
   split
   ·exact Nat.zero_le _
   ·rename_i hc
    obtain ⟨m,rfl,m0,m1⟩:=cacheB_nat (by cases h:cacheB t nd with|true=>rfl|false=>exact absurd h hc)
    rw [List.length_map,Int.toNat_natCast]
    have:=(hF.cf m m0 m1).len
    omega
 have KN:=hide (fun w' (T:Turn nO w w')=>(hT.turn T).entriesA (by omega) (n:=nd))
 have KT:=hide (fun w' (T:Turn nO w w')=>rEntries_any (hR.turn T) nd hF.cf)
 have HMEM:Hid (∀ a∈entS t nd,∃ key ver pres val age,a=[.string key,.int .i64 ver,.int .i64 pres,.string val,.int .i64 age]):=fun a ha=>entS_is ha
 generalize entE t nd=er at *
 generalize entS t nd=es at *
 have HL0:=hide (And.intro L (And.intro hT hR))
 obtain ⟨na,nc,hnv⟩:=rowForm L.ent.row
 have HNV:=hide hnv
 have HHP:=hide hp
 have HBB:=hide hB
 have HNL0:=hide hnl
 clear L hT hR hp hB hnv hF hnl
 unfold prV
 go_enter Tryz.func19,Tryz.ntmps19
 go_wp2_with fail
 generalize hW:World.alloc _ _=W0
 have T0:Turn nO w W0:=by rw [← hW];exact Turn.alloc _ _ _
 have b0:W0.heap[w.heap.size]?=some (.cells #[.pointer (some ⟨bt,0,none⟩),.pointer (some ⟨br,0,none⟩)] 54 (0,0)):=by rw [← hW];exact new1_0 _ _
 clear hW
 refine (uH KN W0 T0).mono ?_
 rintro e w1 ⟨v,rfl,T1,R1⟩
 have T01:=T0.sT T1 (fun _ _ h=>h)
 have x1:w1.cell? ⟨w.heap.size,1,none⟩=some (.pointer (some ⟨br,0,none⟩)):=T1.cell (cOf b0 1) id
 obtain ⟨la,lc,hv⟩:=row_form R1
 subst hv
 have H1:=hide (And.intro T0 (And.intro T1 R1))
 have KT':=hide (uH KT w1 T01)
 clear T0 T1 R1 b0 KN KT T01
 go_wp2_with fail
 refine (uH KT').mono ?_
 rintro e V ⟨v2,rfl,G2⟩
 obtain ⟨T0,T1,R1⟩:=uH H1
 have T2:=G2.turn
 have TV:=(T0.sT T1 (fun _ _ h=>h)).sT T2 (fun _ _ h=>h)
 obtain ⟨ma,mc,hv2⟩:=row_form G2.row
 subst hv2
 have R1':=owns_turnB R1 T2
 have HEL:Hid (∀ r,r<es.length→∃ key ver pres val age,∃ lb mb:Nat,la=some ⟨lb,0,none⟩∧ma=some ⟨mb,0,none⟩∧(∀ i,i<5→V.cell? ⟨lb,r*5+i,none⟩=([.string key,.int .i64 ver,.int .i64 pres,.string val,.int .i64 age]:List Value)[i]?)∧∀ i,i<5→V.cell? ⟨mb,r*5+i,none⟩=([.string key,.int .i64 ver,.int .i64 pres,.string val,.int .i64 age]:List Value)[i]?):=fun r hr=>by
   obtain ⟨x,hx⟩:∃ x,es[r]?=some x:=⟨_,List.getElem?_eq_getElem hr⟩
   have hm5:∀ a∈es,a.length=5:=fun a ha=>by obtain ⟨_,_,_,_,_,rfl⟩:=uH HMEM a ha;rfl
   obtain ⟨lb,lc',h1,h2⟩:=owns_at R1' rfl hm5 hx
   obtain ⟨mb,mc',h3,h4⟩:=owns_at G2.row rfl hm5 hx
   cases h1
   cases h3
   obtain ⟨key,ver,pres,val,age,rfl⟩:=uH HMEM x (List.mem_of_getElem? hx)
   exact ⟨_,_,_,_,_,lb,mb,rfl,rfl,h2,h4⟩
 have HF:Hid (∀ k,(Value.slice la es.length lc).ownBlock=some k→own k=none):=fun k hk=>(uH HL0).1.top k (Nat.le_trans T0.size (R1.lt k hk).1)
 have HLAW:Hid (∀ wx,Turn (fun k=>(Value.slice la es.length lc).ownBlock=some k) V wx→LawAt own w0 wx bw B g (ps.set i ⟨bt,br,t⟩)):=fun wx T=>by
   obtain ⟨L,hT,hR⟩:=uH HL0
   refine L.loosed (p:=⟨bt,br,t⟩) (uH HHP) (v:= .slice la es.length lc) (w1:=V) ⟨⟨own,V,Step.of_turn TV,Step.refl _ _ _⟩,hT.turn TV,⟨rg,hR.turn TV⟩⟩ (fun k hk=>⟨uH HF k hk,fun h=>?_⟩) T
   have:=(R1.lt k hk).1
   have:=T0.size
   omega
 have HTOP:Hid (∀ k,V.heap.size≤k→own k=none):=fun k hk=>(uH HL0).1.top k (Nat.le_trans TV.size hk)
 have HO:=hide (owns_base' R1' (Nat.zero_le W0.heap.size))
 obtain ⟨own1,hown1⟩:∃ o,o=own:=⟨_,rfl⟩
 rw [← hown1] at HF HLAW HTOP
 have HOLD:Hid (∀ k,(Value.slice na g.le.length nc).ownBlock=some k→own1 k=some (0,5)):=fun k hk=>(uH HLAW V (Turn.refl _ _)).ent.row.mine k (by rw [uH HNV];exact hk)
 have HNO:Hid (¬ (Value.slice na g.le.length nc).ownBlock=some bw):=fun e=>by
   have h1:=uH HOLD bw e
   rw [(uH HLAW V (Turn.refl _ _)).blockO] at h1
   cases h1
 have HDN:Hid (∀ wx,Turn (fun k=>(Value.slice la es.length lc).ownBlock=some k) V wx→wx.cell? ⟨bw,3,none⟩=some (.slice na g.le.length nc)∧wx.frozen? ⟨bw,3,none⟩=false):=fun wx T=>⟨by rw [← uH HNV];exact cOf (uH HLAW wx T).block 3,fOf (uH HLAW wx T).block 3⟩
 have HNR:Hid (∀ wx,Turn (fun k=>(Value.slice la es.length lc).ownBlock=some k) V wx→wx.ownsRow 0 64 1 (.slice na g.le.length nc) g.le.length g.le):=fun wx T=>by
   have:=(uH HLAW wx T).ent.row.row
   rw [List.length_map,uH HNV,flat_ones] at this
   exact this
 have KM:=hide (mark_any g.le.length (by have:=(uH HL0).1.few;have:=uH HBB;omega))
 have HNB:Hid (g.le.length≤900000):=by have:=(uH HL0).1.few;have:=uH HBB;show _≤_;omega
 have HNL:Hid (es.length≤1000000):=HNL0
 have HW:Hid (∀ r,r<es.length→IntKind.i64.wrap ((r:Int)+1)=(r:Int)+1):=fun r hr=>by have:=uH HNL;rw [IntKind.wrap_i64];omega
 have HXX:Hid (xE g.le.length=[.string ⟨#[]⟩,.int .i64 (mkI g.le.length),.int .i64 0,.string ⟨#[]⟩,.int .i64 0]):=rfl
 have HLS:Hid (g.le.length=g.le.length):=rfl
 generalize hN:g.le.length=N at *
 generalize hls:g.le=ls at *
 generalize mkI N=mk at *
 generalize hn:es.length=n at *
 clear R1 T1 T0 TV T2 G2 R1' H1 HMEM KT' HHP HL0 HLS HBB HNL0 x1
 go_wp2_with (go_at_call 13;refine (num_any _ _).mono ?_;rintro e w2 ⟨rfl,hw2⟩;subst w2)
 go_loopw [11,12] (fun s i wr=>∃ r:Nat,r≤n∧s= .bool true∧i= .int .i64 (r:Int)∧Hid (Turn nO V wr)) (fun _ i _=>n - (intOf i).toNat)
 case atStart=>exact ⟨0,Nat.zero_le _,rfl,rfl,Turn.refl _ _⟩
 case round =>
   obtain ⟨r,rn,rfl,rfl,HTr⟩:=hrel
   have r0:(0:Int)≤(r:Int):=by omega
   by_cases hr:r<n
   ·obtain ⟨key,ver,pres,val,age,lb,mb,rfl,rfl,CE,DE⟩:=uH HEL r hr
    have rlt:(r:Int)<(n:Int):=by omega
    have hrw:IntKind.i64.wrap ((r:Int)+1)=(r:Int)+1:=uH HW r hr
    have c0:wr.cell? ⟨lb,r*5,none⟩=some (.string key):=(uH HTr).cell (CE 0 (by omega)) id
    have c1:wr.cell? ⟨lb,r*5+1,none⟩=some (.int .i64 ver):=(uH HTr).cell (CE 1 (by omega)) id
    have c2:wr.cell? ⟨lb,r*5+2,none⟩=some (.int .i64 pres):=(uH HTr).cell (CE 2 (by omega)) id
    have c3:wr.cell? ⟨lb,r*5+3,none⟩=some (.string val):=(uH HTr).cell (CE 3 (by omega)) id
    have c4:wr.cell? ⟨lb,r*5+4,none⟩=some (.int .i64 age):=(uH HTr).cell (CE 4 (by omega)) id
    have d0:wr.cell? ⟨mb,r*5,none⟩=some (.string key):=(uH HTr).cell (DE 0 (by omega)) id
    have d1:wr.cell? ⟨mb,r*5+1,none⟩=some (.int .i64 ver):=(uH HTr).cell (DE 1 (by omega)) id
    have d2:wr.cell? ⟨mb,r*5+2,none⟩=some (.int .i64 pres):=(uH HTr).cell (DE 2 (by omega)) id
    have d3:wr.cell? ⟨mb,r*5+3,none⟩=some (.string val):=(uH HTr).cell (DE 3 (by omega)) id
    have d4:wr.cell? ⟨mb,r*5+4,none⟩=some (.int .i64 age):=(uH HTr).cell (DE 4 (by omega)) id
    clear CE DE
    go_wp2
    go_quiet (fail)
    go_wp2
    exact ⟨⟨r+1,by omega,rfl,by go_num,(uH HTr).sT (turn_drewN _ _ _) (fun _ _ h=>h)⟩,by simp [intOf];omega⟩
   ·have rge:¬ (r:Int)<(n:Int):=by omega
    have dn:wr.cell? ⟨bw,3,none⟩=some (.slice na N nc):=(uH HDN wr ((uH HTr).mono (fun _ _ h=>h.elim))).1
    clear HEL
    go_wp2_with fail
    refine (uH KM wr).mono ?_
    rintro e wm ⟨rfl,hwm⟩
    subst hwm
    obtain ⟨bx,hbx⟩:∃ bx,bx=wm.heap.size:=⟨_,rfl⟩
    go_wp2
    generalize hX0:World.alloc _ _=X0
    have hxb:X0.heap[bx]?=some (.cells #[.string ⟨#[]⟩,.int .i64 mk,.int .i64 0,.string ⟨#[]⟩,.int .i64 0] 66 (0,0)):=by rw [← hX0,hbx];exact new1_0 _ _
    have hbV:V.heap.size≤bx:=by rw [hbx];exact (uH HTr).size
    have TX:Turn nO V X0:=by rw [← hX0];exact (uH HTr).sA
    rw [← hbx]
    have HM0:Hid (Turn (fun k=>(Value.slice la n lc).ownBlock=some k) V X0∧X0.heap[bx]?=some (.cells #[.string ⟨#[]⟩,.int .i64 mk,.int .i64 0,.string ⟨#[]⟩,.int .i64 0] 66 (0,0))∧Marked X0 66 5 (.slice la n lc) n 0 [.string ⟨#[]⟩,.int .i64 mk,.int .i64 0,.string ⟨#[]⟩,.int .i64 0]):=⟨TX.mono (fun _ _ h=>h.elim),hxb,(Marked.start (uH HO) _).turn TX (fun _ _ h=>h)⟩
    have HVL:Hid (∀ k,(Value.slice la n lc).ownBlock=some k→k<bx):=fun k hk=>Nat.lt_of_lt_of_le ((uH HO).lt k hk).2 hbV
    clear hX0 hxb TX hbx hbV dn HO KM HTr
    go_loopw [14] (fun i wy=>∃ r:Nat,r≤n∧i= .int .i64 (r:Int)∧Hid (Turn (fun k=>(Value.slice la n lc).ownBlock=some k) V wy∧wy.heap[bx]?=some (.cells #[.string ⟨#[]⟩,.int .i64 mk,.int .i64 0,.string ⟨#[]⟩,.int .i64 0] 66 (0,0))∧Marked wy 66 5 (.slice la n lc) n r [.string ⟨#[]⟩,.int .i64 mk,.int .i64 0,.string ⟨#[]⟩,.int .i64 0])) (fun i _=>n - (intOf i).toNat)
    case atStart=>exact ⟨0,Nat.zero_le _,rfl,HM0⟩
    case round =>
      clear HM0
      obtain ⟨q,qn,rfl,HQ⟩:=hrel
      have q0:(0:Int)≤(q:Int):=by omega
      obtain ⟨y0,y1,y2,y3,y4⟩:=cC5 (uH HQ).2.1
      by_cases hq:q<n
      ·obtain ⟨g0,c0,e0,hg0,hcs,hfz⟩:=(uH HQ).2.2.at_ hq
       injection e0 with e1 e2 e3
       subst e1
       subst e3
       have qlt:(q:Int)<(n:Int):=by omega
       have hqw:IntKind.i64.wrap ((q:Int)+1)=(q:Int)+1:=uH HW q hq
       have hgx:g0<bx:=uH HVL g0 rfl
       have hgne:g0≠bx:=by omega
       obtain ⟨u0,z0⟩:=hcs 0 (by omega)
       obtain ⟨u1,z1⟩:=hcs 1 (by omega)
       obtain ⟨u2,z2⟩:=hcs 2 (by omega)
       obtain ⟨u3,z3⟩:=hcs 3 (by omega)
       obtain ⟨u4,z4⟩:=hcs 4 (by omega)
       rw [Nat.add_zero] at z0
       have f0:=hfz (q*5)
       have f1:=hfz (q*5+1)
       have f2:=hfz (q*5+2)
       have f3:=hfz (q*5+3)
       have f4:=hfz (q*5+4)
       clear hcs hfz
       go_wp2
       refine ⟨⟨q+1,by omega,by go_num,?_⟩,by simp [intOf];omega⟩
       obtain ⟨T1,hx1,M1⟩:=uH HQ
       exact Marked.all5 T1 rfl (fun e=>hgne e.symm) hx1 M1 hq
      ·have qge:¬ (q:Int)<(n:Int):=by omega
       have hqn:n=q:=by omega
       obtain ⟨TQ,hxq,MQ⟩:=uH HQ
       rename World=>wq
       rw [← hqn] at MQ
       have RQ:=hide (MQ.done rfl (by decide))
       have HTQ:=hide TQ
       have HXQ:=hide hxq
       have hbq:bx<wq.heap.size:=heap_lt hxq
       have hbn:Hid (¬ (Value.slice la n lc).ownBlock=some bx):=fun e=>by have:=uH HVL bx e;omega
       clear TQ hxq MQ HQ hqn
       go_wp2_with (at_builtin;refine wpList_append_marks _ (by rfl) _ _ _ (by rfl) 0 66 mi _ 5 56 Tryz.underlying64 mhi mz0 mz1 mz2 rfl (by omega) (.slice la n lc) n [.string ⟨#[]⟩,.int .i64 mk,.int .i64 0,.string ⟨#[]⟩,.int .i64 0] rfl ?c1x1 ?c1x2 ?c1x3 ⟨wq.heap.size,0,none⟩ 1 1 ?c1x4 (news_rep #[.string ⟨#[]⟩,.int .i64 mk,.int .i64 0,.string ⟨#[]⟩,.int .i64 0] rfl (new1_0 wq _)) ?c1x6 ?c1x7 ?c1x8 ?c1x9 ?_)
       try (case c1x1=>simp [Value.oneCell'])
       try (case c1x2=>rfl)
       try (case c1x3=>exact (uH RQ).alloc _)
       try (case c1x4=>rfl)
       try (case c1x6=>omega)
       try (case c1x7=>have:=uH HNL;unfold maxLen;omega)
       try (case c1x8=>have:=uH HNL;omega)
       try (case c1x9=>exact Nat.zero_le _)
       intro g1 cap1 w5 R1 T1 D1 A1 K1
       have HT1:=hide ((uH HTQ).sA.sT T1 (fun _ _ e=>e.symm))
       have hxk:w5.heap[bx]?=some (.cells #[.string ⟨#[]⟩,.int .i64 mk,.int .i64 0,.string ⟨#[]⟩,.int .i64 0] 66 (0,0)):=(T1.block bx (by simp;omega) (fun e=>uH hbn e.symm)).trans (((Turn.alloc nO wq _).block bx hbq id).trans (uH HXQ))
       have HR1:=hide R1
       have HA1:Hid ((Value.slice la n lc).ownBlock=some g1∨V.heap.size≤g1):=A1.imp id (fun e=>by rw [e];have:=(uH HTQ).size;simp;omega)
       have HSZ1:wq.heap.size+1≤w5.heap.size:=by have:=T1.size;simpa using this
       have HD1_1:=hide D1
       have HXQ1:=hide hxk
       have hbq:bx<w5.heap.size:=heap_lt hxk
       obtain ⟨y0,y1,y2,y3,y4⟩:=cC5 hxk
       clear R1 T1 D1 A1 K1 hxk RQ HTQ
       go_wp2_with (at_builtin;refine wpList_append_marks _ (by rfl) _ _ _ (by rfl) 0 66 mi _ 5 56 Tryz.underlying64 mhi mz0 mz1 mz2 rfl (by omega) (.slice la n lc) n [.string ⟨#[]⟩,.int .i64 mk,.int .i64 0,.string ⟨#[]⟩,.int .i64 0] rfl ?c2x1 ?c2x2 ?c2x3 ⟨w5.heap.size,0,none⟩ 2 2 ?c2x4 (news_rep #[.string ⟨#[]⟩,.int .i64 mk,.int .i64 0,.string ⟨#[]⟩,.int .i64 0,.string ⟨#[]⟩,.int .i64 mk,.int .i64 0,.string ⟨#[]⟩,.int .i64 0] rfl (new1_0 w5 _)) ?c2x6 ?c2x7 ?c2x8 ?c2x9 ?_)
       try (case c2x1=>simp [Value.oneCell'])
       try (case c2x2=>rfl)
       try (case c2x3=>exact (uH HR1).alloc _)
       try (case c2x4=>rfl)
       try (case c2x6=>omega)
       try (case c2x7=>have:=uH HNL;unfold maxLen;omega)
       try (case c2x8=>have:=uH HNL;omega)
       try (case c2x9=>exact Nat.zero_le _)
       intro g2 cap2 w6 R2 T2 D2 A2 K2
       have HT2:=hide ((uH HT1).sA.sT T2 (fun _ _ e=>e.symm))
       have hxk:w6.heap[bx]?=some (.cells #[.string ⟨#[]⟩,.int .i64 mk,.int .i64 0,.string ⟨#[]⟩,.int .i64 0] 66 (0,0)):=(T2.block bx (by simp;omega) (fun e=>uH hbn e.symm)).trans (((Turn.alloc nO w5 _).block bx hbq id).trans (uH HXQ1))
       have HR2:=hide R2
       have HA2:Hid ((Value.slice la n lc).ownBlock=some g2∨V.heap.size≤g2):=A2.imp id (fun e=>by rw [e];have:=(uH HT1).size;simp;omega)
       have HSZ2:w5.heap.size+1≤w6.heap.size:=by have:=T2.size;simpa using this
       have HD1_2:=hide (K2 g1 (n+1) (by omega) ((uH HD1_1).heap ((Turn.alloc nO w5 _).block _ (uH HD1_1).lt id) (by simp)))
       have HD2_2:=hide D2
       have HXQ2:=hide hxk
       have hbq:bx<w6.heap.size:=heap_lt hxk
       obtain ⟨y0,y1,y2,y3,y4⟩:=cC5 hxk
       clear R2 T2 D2 A2 K2 hxk HR1 HT1 HD1_1
       go_wp2_with (at_builtin;refine wpList_append_marks _ (by rfl) _ _ _ (by rfl) 0 66 mi _ 5 56 Tryz.underlying64 mhi mz0 mz1 mz2 rfl (by omega) (.slice la n lc) n [.string ⟨#[]⟩,.int .i64 mk,.int .i64 0,.string ⟨#[]⟩,.int .i64 0] rfl ?c3x1 ?c3x2 ?c3x3 ⟨w6.heap.size,0,none⟩ 3 3 ?c3x4 (news_rep #[.string ⟨#[]⟩,.int .i64 mk,.int .i64 0,.string ⟨#[]⟩,.int .i64 0,.string ⟨#[]⟩,.int .i64 mk,.int .i64 0,.string ⟨#[]⟩,.int .i64 0,.string ⟨#[]⟩,.int .i64 mk,.int .i64 0,.string ⟨#[]⟩,.int .i64 0] rfl (new1_0 w6 _)) ?c3x6 ?c3x7 ?c3x8 ?c3x9 ?_)
       try (case c3x1=>simp [Value.oneCell'])
       try (case c3x2=>rfl)
       try (case c3x3=>exact (uH HR2).alloc _)
       try (case c3x4=>rfl)
       try (case c3x6=>omega)
       try (case c3x7=>have:=uH HNL;unfold maxLen;omega)
       try (case c3x8=>have:=uH HNL;omega)
       try (case c3x9=>exact Nat.zero_le _)
       intro g3 cap3 w7 R3 T3 D3 A3 K3
       have HT3:=hide ((uH HT2).sA.sT T3 (fun _ _ e=>e.symm))
       have hxk:w7.heap[bx]?=some (.cells #[.string ⟨#[]⟩,.int .i64 mk,.int .i64 0,.string ⟨#[]⟩,.int .i64 0] 66 (0,0)):=(T3.block bx (by simp;omega) (fun e=>uH hbn e.symm)).trans (((Turn.alloc nO w6 _).block bx hbq id).trans (uH HXQ2))
       have HR3:=hide R3
       have HA3:Hid ((Value.slice la n lc).ownBlock=some g3∨V.heap.size≤g3):=A3.imp id (fun e=>by rw [e];have:=(uH HT2).size;simp;omega)
       have HSZ3:w6.heap.size+1≤w7.heap.size:=by have:=T3.size;simpa using this
       have HD1_3:=hide (K3 g1 (n+1) (by omega) ((uH HD1_2).heap ((Turn.alloc nO w6 _).block _ (uH HD1_2).lt id) (by simp)))
       have HD2_3:=hide (K3 g2 (n+2) (by omega) ((uH HD2_2).heap ((Turn.alloc nO w6 _).block _ (uH HD2_2).lt id) (by simp)))
       have HD3_3:=hide D3
       have HXQ3:=hide hxk
       have hbq:bx<w7.heap.size:=heap_lt hxk
       obtain ⟨y0,y1,y2,y3,y4⟩:=cC5 hxk
       clear R3 T3 D3 A3 K3 hxk HR2 HT2 HD1_2 HD2_2
       obtain ⟨dn,fn⟩:=uH HDN w7 (uH HT3)
       go_wp2_with (at_builtin;refine wpList_append_lies _ (by rfl) _ _ _ (by rfl) 0 64 si _ 1 24 Tryz.underlying29 shi sz0 sz1 sz2 rfl (by omega) (.slice na N nc) N ls ?e1 ?e2 ⟨w7.heap.size,0,none⟩ 4 4 [.slice la n lc,.slice (some ⟨g1,0,none⟩) (n+1) cap1,.slice (some ⟨g2,0,none⟩) (n+2) cap2,.slice (some ⟨g3,0,none⟩) (n+3) cap3] ?e3 ?e4 ?e5 ?e6 ?e7 ?e8 ?e9 ?e10 (w7.heap.size+1) ?e11 ?_)
       try (case e1=>rfl)
       try (case e2=>exact (uH HNR w7 (uH HT3)).alloc _)
       try (case e3=>rfl)
       try (case e4=>rfl)
       try (case e5=>exact World.news_of_block (cs:=#[.slice la n lc,.slice (some ⟨g1,0,none⟩) (n+1) cap1,.slice (some ⟨g2,0,none⟩) (n+2) cap2,.slice (some ⟨g3,0,none⟩) (n+3) cap3]) (t:=64) (fr:=(0,0)) (new1_0 w7 _))
       try (case e6=>simp [Value.oneCell'])
       try (case e7=>omega)
       try (case e8=>have:=uH HNB;unfold maxLen;omega)
       try (case e9=>have:=uH HNB;omega)
       try (case e10=>exact Nat.zero_le _)
       try (case e11=>simp)
       intro gb cap w8 hown hgrow hat hlt
       have hbw7:bw<w7.heap.size:=cell_lt dn
       have hno:some bw≠(Value.slice na N nc).ownBlock:=fun e=>uH HNO e.symm
       have q1:w8.cell? ⟨bw,3,none⟩=some (.slice na N nc):=(hgrow.cell_far ⟨bw,3,none⟩ (by simp;omega) hno).trans ((Turn.alloc nO w7 _).cell dn id)
       have q2:w8.frozen? ⟨bw,3,none⟩=false:=(hgrow.frozen_far ⟨bw,3,none⟩ (by simp;omega) hno).trans ((Turn.alloc nO w7 _).froz dn id fn)
       have HG:=hide (And.intro hown (And.intro hgrow (And.intro hat hlt)))
       clear hown hgrow hat hlt dn fn
       go_wp2
       go_ret
       refine ⟨rfl,?_⟩
       obtain ⟨hown,hgrow,hat,hlt⟩:=uH HG
       have L7:=(uH HLAW w7 (uH HT3)).turn (Turn.alloc nO w7 (.cells #[.slice la n lc,.slice (some ⟨g1,0,none⟩) (n+1) cap1,.slice (some ⟨g2,0,none⟩) (n+2) cap2,.slice (some ⟨g3,0,none⟩) (n+3) cap3] 64 (0,0)))
       have hfree:∀ k,(Value.slice la n lc).ownBlock=some k∨V.heap.size≤k→own1 k=none:=fun k hk=>hk.elim (uH HF k) (uH HTOP k)
       have A7:Turn nO w7 (w7.alloc (.cells #[.slice la n lc,.slice (some ⟨g1,0,none⟩) (n+1) cap1,.slice (some ⟨g2,0,none⟩) (n+2) cap2,.slice (some ⟨g3,0,none⟩) (n+3) cap3] 64 (0,0))):=Turn.alloc nO w7 _
       have hnl:=uH HNL
       obtain ⟨G1,hne,hbk,hgb⟩:=L7.appended (x:=5) (old:= .slice na N nc) (n:=N+4) (cap:=cap) (uH HOLD) (by decide) hgrow (hat.imp id (fun e=>by rw [e];simp)) hlt 3 (.slice (some ⟨gb,0,none⟩) (N+4) cap)
       refine ⟨_,_,_,L7.pushEnt (v:= .slice (some ⟨gb,0,none⟩) (N+4) cap) (a:= .slice la n lc) (b:= .slice (some ⟨g1,0,none⟩) (n+1) cap1) (c:= .slice (some ⟨g2,0,none⟩) (n+2) cap2) (d:= .slice (some ⟨g3,0,none⟩) (n+3) cap3) (by rw [uH HNV];exact G1) ?_ ?_ ?_ ?_ ?_ ?_⟩
       ·rw [hbk];rfl
       ·rw [hls,hN]
        exact owns_one hown hgb
       ·rw [hls,hN,uH HXX]
        exact (mark_of (own:=own1) (uH HR3) rfl (by omega) (fun k hk=>hfree k (Or.inl hk))).frame A7.size (fun k hk ho=>⟨A7.block k hk id,ho⟩)
       ·rw [hls,hN,uH HXX]
        exact (mark_rd (own:=own1) (uH HD1_3) (by omega) (hfree g1 (uH HA1))).frame A7.size (fun k hk ho=>⟨A7.block k hk id,ho⟩)
       ·rw [hls,hN,uH HXX]
        exact (mark_rd (own:=own1) (uH HD2_3) (by omega) (hfree g2 (uH HA2))).frame A7.size (fun k hk ho=>⟨A7.block k hk id,ho⟩)
       ·rw [hls,hN,uH HXX]
        exact (mark_rd (own:=own1) (uH HD3_3) (by omega) (hfree g3 (uH HA3))).frame A7.size (fun k hk ho=>⟨A7.block k hk id,ho⟩)
theorem step_ent (L:LawAt own w0 w bw B g ps) (hB:B≤800000) (hn:0<ps.length) (o:OpD) (ok:OpOK w0 o) (hk:o.kind=12) :
    Calls Tryz.prog 7 #[.pointer (some ⟨bw,0,none⟩),o.val] w fun r w'=>r= .returned (.bool true)∧LawOn w0 bw (B+5) w':=by
 have hpl:ps.length≤800000:=Nat.le_trans L.few.1 hB
 obtain ⟨j,hj⟩:∃ j:Nat,pickL o.on (ps.length:Int)=(j:Int):=⟨(pickL o.on (ps.length:Int)).toNat,by have:=pickL_ok o.on (n:=(ps.length:Int)) (by omega);omega⟩
 have hjl:j<ps.length:=by have:=pickL_ok o.on (n:=(ps.length:Int)) (by omega);omega
 obtain ⟨p,hp⟩:∃ p,ps[j]?=some p:=⟨_,List.getElem?_eq_getElem hjl⟩
 have KP:=hide (fun w'=>pickL_any o.on (ps.length:Int) w' ok.on (by omega))
 rw [hj] at KP
 obtain ⟨nb,nc,hnv,_,hnb,hcs,_⟩:=rowAt L.prs (fun _=>rfl) hp
 have d0:w.cell? ⟨bw,0,none⟩=some (.slice (some ⟨nb,0,none⟩) ps.length nc):=by rw [← hnv];exact cOf L.block 0
 obtain ⟨c0,c1⟩:=rC2 hcs
 have hbw:=L.lt
 have j0:(0:Int)≤(j:Int):=by omega
 have j1:(j:Int)<(ps.length:Int):=by omega
 have n0:¬ (ps.length:Int)=0:=by omega
 have KM:=hide (fun w' (T:Turn nO w w')=>lkept_any (L.turn T) hp hB o.a)
 obtain ⟨kind,on,a_,b_,s_,t_,pa,pc,zs,dr,bu,en,wa,m⟩:=o
 obtain ⟨bt,br,t⟩:=p
 dsimp only at *
 subst hk
 generalize ps.length=N at *
 clear L ok hB hnv hcs hp hpl hj
 unfold prV at KM
 unfold OpD.val OpD.cells opC at *
 dsimp only at *
 go_enter Tryz.func7,Tryz.ntmps7
 go_upto_region 1 with fail
 generalize hW:World.alloc _ _=W0
 have T0:Turn nO w W0:=by rw [← hW];exact Turn.alloc _ _ _
 have b0:W0.heap[w.heap.size]?=some (.cells (opC 12 on a_ b_ s_ t_ pa zs.length pc dr bu en wa m) 39 (0,0)):=by rw [← hW];exact new1_0 _ _
 unfold opC at b0
 clear hW
 have y0:W0.cell? ⟨w.heap.size,0,none⟩=some (.int .i64 12):=cOf b0 0
 have y1:W0.cell? ⟨w.heap.size,1,none⟩=some (.int .i64 on):=cOf b0 1
 have y2:W0.cell? ⟨w.heap.size,2,none⟩=some (.int .i64 a_):=cOf b0 2
 have e0:=T0.cell d0 id
 have e1:=T0.cell c0 id
 have e2:=T0.cell c1 id
 clear d0 c0 c1 b0
 go_wp2
 have HS:=fun w' (T:Turn nO W0 w')=>And.intro T (And.intro (T.cell e0 id) (And.intro (T.cell y1 id) (And.intro (T.cell e1 id) (T.cell e2 id))))
 go_region_held3 (fun w'=>Turn nO W0 w'∧w'.cell? ⟨bw,0,none⟩=some (.slice (some ⟨nb,0,none⟩) N nc)∧w'.cell? ⟨w.heap.size,1,none⟩=some (.int .i64 on)∧w'.cell? ⟨nb,j*2,none⟩=some (.pointer (some ⟨bt,0,none⟩))∧w'.cell? ⟨nb,j*2+1,none⟩=some (.pointer (some ⟨br,0,none⟩))) ((go_split_ands;apply HS;all_goals (repeat (first|(with_reducible first|assumption|exact Turn.refl _ _|apply Turn.sA|apply Turn.sD|refine tN ?_ (by assumption))|((with_reducible refine Turn.sS ?_ ?_);rotate_left;· first|exact Or.inr rfl|exact Or.inr (Or.inl rfl)|exact Or.inl (by simp <;> omega))|(with_reducible refine tG ?_ (by assumption))|(with_reducible first|apply There.drew|apply There.set|refine hNo ?_ (by assumption))|assumption)))) ((go_at_call 16;go_split_ands;refine (uH KP _).mono ?_;rintro e w' ⟨rfl,rfl⟩))
 all_goals (
   clear HS KP
   generalize hW5:World.drew _=W5
   have T5:Turn nO W0 W5:=by rw [← hW5];exact (Turn.alloc _ _ _).sD
   have bp:W5.heap[W0.heap.size]?=some (.cells #[.pointer (some ⟨bt,0,none⟩),.pointer (some ⟨br,0,none⟩)] 54 (0,0)):=by rw [← hW5];exact new1_0 _ _
   clear hW5
   obtain ⟨z0,z1⟩:=cC2 bp
   have v0:W5.cell? ⟨w.heap.size,0,none⟩=some (.int .i64 12):=T5.cell y0 id
   have v1:W5.cell? ⟨w.heap.size,1,none⟩=some (.int .i64 on):=T5.cell y1 id
   have v2:W5.cell? ⟨w.heap.size,2,none⟩=some (.int .i64 a_):=T5.cell y2 id
   have KM5:=hide (uH KM W5 (T0.sT T5 (fun _ _ h=>h)))
   clear T5 T0 bp KM
   go_wp2_with fail
   refine (uH KM5).mono ?_
   rintro e w9 ⟨rfl,h9⟩
   have H9:=hide h9
   clear h9 KM5
   go_wp2
   go_ret
   exact ⟨rfl,uH H9⟩)
end
section
open Go.RowKit Go.Deep
open Tier (Mes Ans Conf St)
attribute [local go_sem ↓] Go.wp_at_zero Go.wp_at_succ
variable {own:Own} {τ1 τ2:Nat} {w:World} {bt br b:Nat} {t:St} {g:RGh}
theorem changes_write (hT:TierAt own τ1 w bt b t) (hR:RLies own τ2 w br g t) (hne:τ1≠τ2) (hK:KeyTab w) (hb:b≤800000) (o:OpD) (hs:o.s.size≤maxLen) (ht:o.t.size≤maxLen) (hk:o.kind=5) :
    Calls Tryz.prog 20 #[prV bt br,o.val] w fun r w'=>r= .returned (.bool true)∧Leave2 own τ1 τ2 w bt br (b+5) w':=by
 have hF:=hT.fit (by omega)
 obtain ⟨kind,on,a_,b_,s_,t_,pa,pc,zs,dr,bu,en,wa,m⟩:=o
 dsimp only at hs ht hk
 subst hk
 obtain ⟨E,hE⟩:∃ E,E=writeE t s_ t_:=⟨_,rfl⟩
 obtain ⟨u,hu⟩:∃ u,u=writeS t s_ t_:=⟨_,rfl⟩
 have KP:Hid (∀ w',Turn nO w w'→Calls Tryz.prog 37 #[.pointer (some ⟨bt,0,none⟩),.string s_,.string t_] w' fun r w''=>r= .returned (.int .i64 E)∧Leaves own τ1 w' bt (b+5) u w''):=fun w' T=>by
   have hT:=hT.turn T
   have hK:=hK.turn T
   rw [hE,hu]
   exact hT.writeA hK (by omega) hs
 have KR:Hid (∀ own w' g,RLies own τ2 w' br g t→Calls Tryz.prog 38 #[.pointer (some ⟨br,0,none⟩),.string s_,.string t_] w' fun r w''=>r= .returned (.int .i64 E)∧RLeaves own τ2 w' br u w''):=fun own w' g h=>by
   rw [hE,hu]
   exact rWrite_any h s_ t_ hs ht (by have:=hF.items;omega) (by have:=hF.ver s_;omega)
 have HR:=hide hR
 have HNE:=hide hne
 have HTOP:=hide hR.top
 clear hT hR hne hK hb hs ht hF hE hu
 unfold OpD.val OpD.cells opC prV
 dsimp only
 go_enter Tryz.func20,Tryz.ntmps20
 go_wp2_with fail
 generalize hW:World.alloc _ _=W0
 have T0:Turn nO w W0:=by rw [← hW];exact (Turn.alloc _ _ _).sA
 have b0:=box2_0 hW
 have b1:=box2_1 hW
 clear hW
 have KP':=hide (uH KP W0 T0)
 clear KP
 refine (uH KP').mono ?_
 rintro e w1 ⟨rfl,own1,A1,S1⟩
 obtain ⟨x1,y2,y3,y4,y5⟩:=chgC S1 b0 b1 (uH HTOP)
 have KR':=hide (uH KR own1 w1 g (((uH HR).turn T0).frame (S1.other (fun e=>uH HNE e.symm)) A1.top))
 have HA:=hide (And.intro T0 (And.intro S1 A1))
 clear b0 b1 KR KP' T0 S1 A1
 go_wp2_with fail
 refine (uH KR').mono ?_
 rintro e w2 ⟨rfl,⟨own2,g2,R2,S2⟩⟩
 have HB:=hide (And.intro S2 R2)
 clear R2 S2 KR' x1 y2 y3 y4 y5
 go_wp2_with (go_at_call 13;refine (num_any _ _).mono ?_;rintro e w' ⟨rfl,rfl⟩)
 go_ret
 obtain ⟨T0,S1,A1⟩:=uH HA
 obtain ⟨S2,R2⟩:=uH HB
 exact ⟨rfl,⟨own2,u,Both.mk' (uH HNE) T0 S1 A1 S2 R2 (Turn.refl _ _)⟩⟩
theorem changes_remove (hT:TierAt own τ1 w bt b t) (hR:RLies own τ2 w br g t) (hne:τ1≠τ2) (hK:KeyTab w) (hb:b≤800000) (o:OpD) (hs:o.s.size≤maxLen) (ht:o.t.size≤maxLen) (hk:o.kind=6) :
    Calls Tryz.prog 20 #[prV bt br,o.val] w fun r w'=>r= .returned (.bool true)∧Leave2 own τ1 τ2 w bt br (b+5) w':=by
 have hF:=hT.fit (by omega)
 obtain ⟨kind,on,a_,b_,s_,t_,pa,pc,zs,dr,bu,en,wa,m⟩:=o
 dsimp only at hs ht hk
 subst hk
 obtain ⟨E,hE⟩:∃ E,E=removeE t s_:=⟨_,rfl⟩
 obtain ⟨u,hu⟩:∃ u,u=removeS t s_:=⟨_,rfl⟩
 have KP:Hid (∀ w',Turn nO w w'→Calls Tryz.prog 39 #[.pointer (some ⟨bt,0,none⟩),.string s_] w' fun r w''=>r= .returned (.int .i64 E)∧Leaves own τ1 w' bt (b+5) u w''):=fun w' T=>by
   have hT:=hT.turn T
   have hK:=hK.turn T
   rw [hE,hu]
   exact hT.removeA hK (by omega) hs
 have KR:Hid (∀ own w' g,RLies own τ2 w' br g t→Calls Tryz.prog 40 #[.pointer (some ⟨br,0,none⟩),.string s_] w' fun r w''=>r= .returned (.int .i64 E)∧RLeaves own τ2 w' br u w''):=fun own w' g h=>by
   rw [hE,hu]
   exact rRemove_any h s_ hs (by have:=hF.items;omega) (by have:=hF.ver s_;omega)
 have HR:=hide hR
 have HNE:=hide hne
 have HTOP:=hide hR.top
 clear hT hR hne hK hb hs ht hF hE hu
 unfold OpD.val OpD.cells opC prV
 dsimp only
 go_enter Tryz.func20,Tryz.ntmps20
 go_wp2_with fail
 generalize hW:World.alloc _ _=W0
 have T0:Turn nO w W0:=by rw [← hW];exact (Turn.alloc _ _ _).sA
 have b0:=box2_0 hW
 have b1:=box2_1 hW
 clear hW
 have KP':=hide (uH KP W0 T0)
 clear KP
 refine (uH KP').mono ?_
 rintro e w1 ⟨rfl,own1,A1,S1⟩
 obtain ⟨x1,y2,y3,y4,y5⟩:=chgC S1 b0 b1 (uH HTOP)
 have KR':=hide (uH KR own1 w1 g (((uH HR).turn T0).frame (S1.other (fun e=>uH HNE e.symm)) A1.top))
 have HA:=hide (And.intro T0 (And.intro S1 A1))
 clear b0 b1 KR KP' T0 S1 A1
 go_wp2_with fail
 refine (uH KR').mono ?_
 rintro e w2 ⟨rfl,⟨own2,g2,R2,S2⟩⟩
 have HB:=hide (And.intro S2 R2)
 clear R2 S2 KR' x1 y2 y3 y4 y5
 go_wp2_with (go_at_call 13;refine (num_any _ _).mono ?_;rintro e w' ⟨rfl,rfl⟩)
 go_ret
 obtain ⟨T0,S1,A1⟩:=uH HA
 obtain ⟨S2,R2⟩:=uH HB
 exact ⟨rfl,⟨own2,u,Both.mk' (uH HNE) T0 S1 A1 S2 R2 (Turn.refl _ _)⟩⟩
theorem changes_clock (hT:TierAt own τ1 w bt b t) (hR:RLies own τ2 w br g t) (hne:τ1≠τ2) (hK:KeyTab w) (hb:b≤800000) (o:OpD) (hs:o.s.size≤maxLen) (ht:o.t.size≤maxLen) (hk:o.kind=7) :
    Calls Tryz.prog 20 #[prV bt br,o.val] w fun r w'=>r= .returned (.bool true)∧Leave2 own τ1 τ2 w bt br (b+5) w':=by
 have hF:=hT.fit (by omega)
 obtain ⟨kind,on,a_,b_,s_,t_,pa,pc,zs,dr,bu,en,wa,m⟩:=o
 dsimp only at hs ht hk
 subst hk
 obtain ⟨E,hE⟩:∃ E,E=clockE t a_ b_:=⟨_,rfl⟩
 obtain ⟨u,hu⟩:∃ u,u=clockS t a_ b_:=⟨_,rfl⟩
 have KP:Hid (∀ w',Turn nO w w'→Calls Tryz.prog 41 #[.pointer (some ⟨bt,0,none⟩),.int .i64 a_,.int .i64 b_] w' fun r w''=>r= .returned (.int .i64 E)∧Leaves own τ1 w' bt (b+5) u w''):=fun w' T=>by
   have hT:=hT.turn T
   have hK:=hK.turn T
   rw [hE,hu]
   exact hT.clockA
 have KR:Hid (∀ own w' g,RLies own τ2 w' br g t→Calls Tryz.prog 42 #[.pointer (some ⟨br,0,none⟩),.int .i64 a_,.int .i64 b_] w' fun r w''=>r= .returned (.int .i64 E)∧RLeaves own τ2 w' br u w''):=fun own w' g h=>by
   rw [hE,hu]
   exact rClock_any h a_ b_
 have HR:=hide hR
 have HNE:=hide hne
 have HTOP:=hide hR.top
 clear hT hR hne hK hb hs ht hF hE hu
 unfold OpD.val OpD.cells opC prV
 dsimp only
 go_enter Tryz.func20,Tryz.ntmps20
 go_wp2_with fail
 generalize hW:World.alloc _ _=W0
 have T0:Turn nO w W0:=by rw [← hW];exact (Turn.alloc _ _ _).sA
 have b0:=box2_0 hW
 have b1:=box2_1 hW
 clear hW
 have KP':=hide (uH KP W0 T0)
 clear KP
 refine (uH KP').mono ?_
 rintro e w1 ⟨rfl,own1,A1,S1⟩
 obtain ⟨x1,y2,y3,y4,y5⟩:=chgC S1 b0 b1 (uH HTOP)
 have KR':=hide (uH KR own1 w1 g (((uH HR).turn T0).frame (S1.other (fun e=>uH HNE e.symm)) A1.top))
 have HA:=hide (And.intro T0 (And.intro S1 A1))
 clear b0 b1 KR KP' T0 S1 A1
 go_wp2_with fail
 refine (uH KR').mono ?_
 rintro e w2 ⟨rfl,⟨own2,g2,R2,S2⟩⟩
 have HB:=hide (And.intro S2 R2)
 clear R2 S2 KR' x1 y2 y3 y4 y5
 go_wp2_with (go_at_call 13;refine (num_any _ _).mono ?_;rintro e w' ⟨rfl,rfl⟩)
 go_ret
 obtain ⟨T0,S1,A1⟩:=uH HA
 obtain ⟨S2,R2⟩:=uH HB
 exact ⟨rfl,⟨own2,u,Both.mk' (uH HNE) T0 S1 A1 S2 R2 (Turn.refl _ _)⟩⟩
theorem changes_ask (hT:TierAt own τ1 w bt b t) (hR:RLies own τ2 w br g t) (hne:τ1≠τ2) (hK:KeyTab w) (hb:b≤800000) (o:OpD) (hs:o.s.size≤maxLen) (ht:o.t.size≤maxLen) (hk:o.kind=8) :
    Calls Tryz.prog 20 #[prV bt br,o.val] w fun r w'=>r= .returned (.bool true)∧Leave2 own τ1 τ2 w bt br (b+5) w':=by
 have hF:=hT.fit (by omega)
 obtain ⟨kind,on,a_,b_,s_,t_,pa,pc,zs,dr,bu,en,wa,m⟩:=o
 dsimp only at hs ht hk
 subst hk
 obtain ⟨E,hE⟩:∃ E,E=askE t a_ s_:=⟨_,rfl⟩
 obtain ⟨u,hu⟩:∃ u,u=askS t a_ b_ s_:=⟨_,rfl⟩
 have KP:Hid (∀ w',Turn nO w w'→Calls Tryz.prog 43 #[.pointer (some ⟨bt,0,none⟩),.int .i64 a_,.int .i64 b_,.string s_] w' fun r w''=>r= .returned (.int .i64 E)∧Leaves own τ1 w' bt (b+5) u w''):=fun w' T=>by
   have hT:=hT.turn T
   have hK:=hK.turn T
   rw [hE,hu]
   exact hT.askA hK (by omega) hs
 have KR:Hid (∀ own w' g,RLies own τ2 w' br g t→Calls Tryz.prog 44 #[.pointer (some ⟨br,0,none⟩),.int .i64 a_,.int .i64 b_,.string s_] w' fun r w''=>r= .returned (.int .i64 E)∧RLeaves own τ2 w' br u w''):=fun own w' g h=>by
   rw [hE,hu]
   exact rAsk_any h a_ b_ s_ hs hF.wf
 have HR:=hide hR
 have HNE:=hide hne
 have HTOP:=hide hR.top
 clear hT hR hne hK hb hs ht hF hE hu
 unfold OpD.val OpD.cells opC prV
 dsimp only
 go_enter Tryz.func20,Tryz.ntmps20
 go_wp2_with fail
 generalize hW:World.alloc _ _=W0
 have T0:Turn nO w W0:=by rw [← hW];exact (Turn.alloc _ _ _).sA
 have b0:=box2_0 hW
 have b1:=box2_1 hW
 clear hW
 have KP':=hide (uH KP W0 T0)
 clear KP
 refine (uH KP').mono ?_
 rintro e w1 ⟨rfl,own1,A1,S1⟩
 obtain ⟨x1,y2,y3,y4,y5⟩:=chgC S1 b0 b1 (uH HTOP)
 have KR':=hide (uH KR own1 w1 g (((uH HR).turn T0).frame (S1.other (fun e=>uH HNE e.symm)) A1.top))
 have HA:=hide (And.intro T0 (And.intro S1 A1))
 clear b0 b1 KR KP' T0 S1 A1
 go_wp2_with fail
 refine (uH KR').mono ?_
 rintro e w2 ⟨rfl,⟨own2,g2,R2,S2⟩⟩
 have HB:=hide (And.intro S2 R2)
 clear R2 S2 KR' x1 y2 y3 y4 y5
 go_wp2_with (go_at_call 13;refine (num_any _ _).mono ?_;rintro e w' ⟨rfl,rfl⟩)
 go_ret
 obtain ⟨T0,S1,A1⟩:=uH HA
 obtain ⟨S2,R2⟩:=uH HB
 exact ⟨rfl,⟨own2,u,Both.mk' (uH HNE) T0 S1 A1 S2 R2 (Turn.refl _ _)⟩⟩
theorem changes_deliver (hT:TierAt own τ1 w bt b t) (hR:RLies own τ2 w br g t) (hne:τ1≠τ2) (hK:KeyTab w) (hb:b≤800000) (o:OpD) (hs:o.s.size≤maxLen) (ht:o.t.size≤maxLen) (hk:o.kind=10) :
    Calls Tryz.prog 20 #[prV bt br,o.val] w fun r w'=>r= .returned (.bool true)∧Leave2 own τ1 τ2 w bt br (b+5) w':=by
 have hF:=hT.fit (by omega)
 obtain ⟨kind,on,a_,b_,s_,t_,pa,pc,zs,dr,bu,en,wa,m⟩:=o
 dsimp only at hs ht hk
 subst hk
 obtain ⟨E,hE⟩:∃ E,E=loseE t a_:=⟨_,rfl⟩
 obtain ⟨u,hu⟩:∃ u,u=delS t a_:=⟨_,rfl⟩
 have KP:Hid (∀ w',Turn nO w w'→Calls Tryz.prog 45 #[.pointer (some ⟨bt,0,none⟩),.int .i64 a_] w' fun r w''=>r= .returned (.int .i64 E)∧Leaves own τ1 w' bt (b+5) u w''):=fun w' T=>by
   have hT:=hT.turn T
   have hK:=hK.turn T
   rw [hE,hu]
   exact hT.delA (by omega)
 have KR:Hid (∀ own w' g,RLies own τ2 w' br g t→Calls Tryz.prog 46 #[.pointer (some ⟨br,0,none⟩),.int .i64 a_] w' fun r w''=>r= .returned (.int .i64 E)∧RLeaves own τ2 w' br u w''):=fun own w' g h=>by
   rw [hE,hu]
   exact rDeliver_any h a_ hF
 have HR:=hide hR
 have HNE:=hide hne
 have HTOP:=hide hR.top
 clear hT hR hne hK hb hs ht hF hE hu
 unfold OpD.val OpD.cells opC prV
 dsimp only
 go_enter Tryz.func20,Tryz.ntmps20
 go_wp2_with fail
 generalize hW:World.alloc _ _=W0
 have T0:Turn nO w W0:=by rw [← hW];exact (Turn.alloc _ _ _).sA
 have b0:=box2_0 hW
 have b1:=box2_1 hW
 clear hW
 have KP':=hide (uH KP W0 T0)
 clear KP
 refine (uH KP').mono ?_
 rintro e w1 ⟨rfl,own1,A1,S1⟩
 obtain ⟨x1,y2,y3,y4,y5⟩:=chgC S1 b0 b1 (uH HTOP)
 have KR':=hide (uH KR own1 w1 g (((uH HR).turn T0).frame (S1.other (fun e=>uH HNE e.symm)) A1.top))
 have HA:=hide (And.intro T0 (And.intro S1 A1))
 clear b0 b1 KR KP' T0 S1 A1
 go_wp2_with fail
 refine (uH KR').mono ?_
 rintro e w2 ⟨rfl,⟨own2,g2,R2,S2⟩⟩
 have HB:=hide (And.intro S2 R2)
 clear R2 S2 KR' x1 y2 y3 y4 y5
 go_wp2_with (go_at_call 13;refine (num_any _ _).mono ?_;rintro e w' ⟨rfl,rfl⟩)
 go_ret
 obtain ⟨T0,S1,A1⟩:=uH HA
 obtain ⟨S2,R2⟩:=uH HB
 exact ⟨rfl,⟨own2,u,Both.mk' (uH HNE) T0 S1 A1 S2 R2 (Turn.refl _ _)⟩⟩
theorem changes_lose (hT:TierAt own τ1 w bt b t) (hR:RLies own τ2 w br g t) (hne:τ1≠τ2) (hK:KeyTab w) (hb:b≤800000) (o:OpD) (hs:o.s.size≤maxLen) (ht:o.t.size≤maxLen) (hk:o.kind=13) :
    Calls Tryz.prog 20 #[prV bt br,o.val] w fun r w'=>r= .returned (.bool true)∧Leave2 own τ1 τ2 w bt br (b+5) w':=by
 have hF:=hT.fit (by omega)
 obtain ⟨kind,on,a_,b_,s_,t_,pa,pc,zs,dr,bu,en,wa,m⟩:=o
 dsimp only at hs ht hk
 subst hk
 obtain ⟨E,hE⟩:∃ E,E=loseE t a_:=⟨_,rfl⟩
 obtain ⟨u,hu⟩:∃ u,u=loseS t a_:=⟨_,rfl⟩
 have KP:Hid (∀ w',Turn nO w w'→Calls Tryz.prog 47 #[.pointer (some ⟨bt,0,none⟩),.int .i64 a_] w' fun r w''=>r= .returned (.int .i64 E)∧Leaves own τ1 w' bt (b+5) u w''):=fun w' T=>by
   have hT:=hT.turn T
   have hK:=hK.turn T
   rw [hE,hu]
   exact hT.loseA (by omega)
 have KR:Hid (∀ own w' g,RLies own τ2 w' br g t→Calls Tryz.prog 48 #[.pointer (some ⟨br,0,none⟩),.int .i64 a_] w' fun r w''=>r= .returned (.int .i64 E)∧RLeaves own τ2 w' br u w''):=fun own w' g h=>by
   rw [hE,hu]
   exact rLose_any h a_ (by have:=hF.net;omega)
 have HR:=hide hR
 have HNE:=hide hne
 have HTOP:=hide hR.top
 clear hT hR hne hK hb hs ht hF hE hu
 unfold OpD.val OpD.cells opC prV
 dsimp only
 go_enter Tryz.func20,Tryz.ntmps20
 go_wp2_with fail
 generalize hW:World.alloc _ _=W0
 have T0:Turn nO w W0:=by rw [← hW];exact (Turn.alloc _ _ _).sA
 have b0:=box2_0 hW
 have b1:=box2_1 hW
 clear hW
 have KP':=hide (uH KP W0 T0)
 clear KP
 refine (uH KP').mono ?_
 rintro e w1 ⟨rfl,own1,A1,S1⟩
 obtain ⟨x1,y2,y3,y4,y5⟩:=chgC S1 b0 b1 (uH HTOP)
 have KR':=hide (uH KR own1 w1 g (((uH HR).turn T0).frame (S1.other (fun e=>uH HNE e.symm)) A1.top))
 have HA:=hide (And.intro T0 (And.intro S1 A1))
 clear b0 b1 KR KP' T0 S1 A1
 go_wp2_with fail
 refine (uH KR').mono ?_
 rintro e w2 ⟨rfl,⟨own2,g2,R2,S2⟩⟩
 have HB:=hide (And.intro S2 R2)
 clear R2 S2 KR' x1 y2 y3 y4 y5
 go_wp2_with (go_at_call 13;refine (num_any _ _).mono ?_;rintro e w' ⟨rfl,rfl⟩)
 go_ret
 obtain ⟨T0,S1,A1⟩:=uH HA
 obtain ⟨S2,R2⟩:=uH HB
 exact ⟨rfl,⟨own2,u,Both.mk' (uH HNE) T0 S1 A1 S2 R2 (Turn.refl _ _)⟩⟩
theorem changes_double (hT:TierAt own τ1 w bt b t) (hR:RLies own τ2 w br g t) (hne:τ1≠τ2) (hK:KeyTab w) (hb:b≤800000) (o:OpD) (hs:o.s.size≤maxLen) (ht:o.t.size≤maxLen) (hk:o.kind=14) :
    Calls Tryz.prog 20 #[prV bt br,o.val] w fun r w'=>r= .returned (.bool true)∧Leave2 own τ1 τ2 w bt br (b+5) w':=by
 have hF:=hT.fit (by omega)
 obtain ⟨kind,on,a_,b_,s_,t_,pa,pc,zs,dr,bu,en,wa,m⟩:=o
 dsimp only at hs ht hk
 subst hk
 obtain ⟨E,hE⟩:∃ E,E=doubleE t a_:=⟨_,rfl⟩
 obtain ⟨u,hu⟩:∃ u,u=doubleS t a_:=⟨_,rfl⟩
 have KP:Hid (∀ w',Turn nO w w'→Calls Tryz.prog 49 #[.pointer (some ⟨bt,0,none⟩),.int .i64 a_] w' fun r w''=>r= .returned (.int .i64 E)∧Leaves own τ1 w' bt (b+5) u w''):=fun w' T=>by
   have hT:=hT.turn T
   have hK:=hK.turn T
   rw [hE,hu]
   exact hT.doubleA (by omega)
 have KR:Hid (∀ own w' g,RLies own τ2 w' br g t→Calls Tryz.prog 50 #[.pointer (some ⟨br,0,none⟩),.int .i64 a_] w' fun r w''=>r= .returned (.int .i64 E)∧RLeaves own τ2 w' br u w''):=fun own w' g h=>by
   rw [hE,hu]
   exact rDouble_any h a_
 have HR:=hide hR
 have HNE:=hide hne
 have HTOP:=hide hR.top
 clear hT hR hne hK hb hs ht hF hE hu
 unfold OpD.val OpD.cells opC prV
 dsimp only
 go_enter Tryz.func20,Tryz.ntmps20
 go_wp2_with fail
 generalize hW:World.alloc _ _=W0
 have T0:Turn nO w W0:=by rw [← hW];exact (Turn.alloc _ _ _).sA
 have b0:=box2_0 hW
 have b1:=box2_1 hW
 clear hW
 have KP':=hide (uH KP W0 T0)
 clear KP
 refine (uH KP').mono ?_
 rintro e w1 ⟨rfl,own1,A1,S1⟩
 obtain ⟨x1,y2,y3,y4,y5⟩:=chgC S1 b0 b1 (uH HTOP)
 have KR':=hide (uH KR own1 w1 g (((uH HR).turn T0).frame (S1.other (fun e=>uH HNE e.symm)) A1.top))
 have HA:=hide (And.intro T0 (And.intro S1 A1))
 clear b0 b1 KR KP' T0 S1 A1
 go_wp2_with fail
 refine (uH KR').mono ?_
 rintro e w2 ⟨rfl,⟨own2,g2,R2,S2⟩⟩
 have HB:=hide (And.intro S2 R2)
 clear R2 S2 KR' x1 y2 y3 y4 y5
 go_wp2_with (go_at_call 13;refine (num_any _ _).mono ?_;rintro e w' ⟨rfl,rfl⟩)
 go_ret
 obtain ⟨T0,S1,A1⟩:=uH HA
 obtain ⟨S2,R2⟩:=uH HB
 exact ⟨rfl,⟨own2,u,Both.mk' (uH HNE) T0 S1 A1 S2 R2 (Turn.refl _ _)⟩⟩
theorem changes_timeout (hT:TierAt own τ1 w bt b t) (hR:RLies own τ2 w br g t) (hne:τ1≠τ2) (hK:KeyTab w) (hb:b≤800000) (o:OpD) (hs:o.s.size≤maxLen) (ht:o.t.size≤maxLen) (hk:o.kind=15) :
    Calls Tryz.prog 20 #[prV bt br,o.val] w fun r w'=>r= .returned (.bool true)∧Leave2 own τ1 τ2 w bt br (b+5) w':=by
 have hF:=hT.fit (by omega)
 obtain ⟨kind,on,a_,b_,s_,t_,pa,pc,zs,dr,bu,en,wa,m⟩:=o
 dsimp only at hs ht hk
 subst hk
 obtain ⟨E,hE⟩:∃ E,E=timeE t a_ s_:=⟨_,rfl⟩
 obtain ⟨u,hu⟩:∃ u,u=timeS t a_ s_:=⟨_,rfl⟩
 have KP:Hid (∀ w',Turn nO w w'→Calls Tryz.prog 51 #[.pointer (some ⟨bt,0,none⟩),.int .i64 a_,.string s_] w' fun r w''=>r= .returned (.int .i64 E)∧Leaves own τ1 w' bt (b+5) u w''):=fun w' T=>by
   have hT:=hT.turn T
   have hK:=hK.turn T
   rw [hE,hu]
   exact hT.timeA hK (by omega) hs
 have KR:Hid (∀ own w' g,RLies own τ2 w' br g t→Calls Tryz.prog 52 #[.pointer (some ⟨br,0,none⟩),.int .i64 a_,.string s_] w' fun r w''=>r= .returned (.int .i64 E)∧RLeaves own τ2 w' br u w''):=fun own w' g h=>by
   rw [hE,hu]
   exact rTimeout_any h a_ s_ hs hF.wf (by have:=hF.net;omega) (by have:=hF.ans;omega)
 have HR:=hide hR
 have HNE:=hide hne
 have HTOP:=hide hR.top
 clear hT hR hne hK hb hs ht hF hE hu
 unfold OpD.val OpD.cells opC prV
 dsimp only
 go_enter Tryz.func20,Tryz.ntmps20
 go_wp2_with fail
 generalize hW:World.alloc _ _=W0
 have T0:Turn nO w W0:=by rw [← hW];exact (Turn.alloc _ _ _).sA
 have b0:=box2_0 hW
 have b1:=box2_1 hW
 clear hW
 have KP':=hide (uH KP W0 T0)
 clear KP
 refine (uH KP').mono ?_
 rintro e w1 ⟨rfl,own1,A1,S1⟩
 obtain ⟨x1,y2,y3,y4,y5⟩:=chgC S1 b0 b1 (uH HTOP)
 have KR':=hide (uH KR own1 w1 g (((uH HR).turn T0).frame (S1.other (fun e=>uH HNE e.symm)) A1.top))
 have HA:=hide (And.intro T0 (And.intro S1 A1))
 clear b0 b1 KR KP' T0 S1 A1
 go_wp2_with fail
 refine (uH KR').mono ?_
 rintro e w2 ⟨rfl,⟨own2,g2,R2,S2⟩⟩
 have HB:=hide (And.intro S2 R2)
 clear R2 S2 KR' x1 y2 y3 y4 y5
 go_wp2_with (go_at_call 13;refine (num_any _ _).mono ?_;rintro e w' ⟨rfl,rfl⟩)
 go_ret
 obtain ⟨T0,S1,A1⟩:=uH HA
 obtain ⟨S2,R2⟩:=uH HB
 exact ⟨rfl,⟨own2,u,Both.mk' (uH HNE) T0 S1 A1 S2 R2 (Turn.refl _ _)⟩⟩
theorem changes_crash (hT:TierAt own τ1 w bt b t) (hR:RLies own τ2 w br g t) (hne:τ1≠τ2) (hK:KeyTab w) (hb:b≤800000) (o:OpD) (hs:o.s.size≤maxLen) (ht:o.t.size≤maxLen) (hk:o.kind=16) :
    Calls Tryz.prog 20 #[prV bt br,o.val] w fun r w'=>r= .returned (.bool true)∧Leave2 own τ1 τ2 w bt br (b+5) w':=by
 have hF:=hT.fit (by omega)
 obtain ⟨kind,on,a_,b_,s_,t_,pa,pc,zs,dr,bu,en,wa,m⟩:=o
 dsimp only at hs ht hk
 subst hk
 obtain ⟨E,hE⟩:∃ E,E=crashE t a_:=⟨_,rfl⟩
 obtain ⟨u,hu⟩:∃ u,u=crashS t a_:=⟨_,rfl⟩
 have KP:Hid (∀ w',Turn nO w w'→Calls Tryz.prog 53 #[.pointer (some ⟨bt,0,none⟩),.int .i64 a_] w' fun r w''=>r= .returned (.int .i64 E)∧Leaves own τ1 w' bt (b+5) u w''):=fun w' T=>by
   have hT:=hT.turn T
   have hK:=hK.turn T
   rw [hE,hu]
   exact hT.crashA
 have KR:Hid (∀ own w' g,RLies own τ2 w' br g t→Calls Tryz.prog 54 #[.pointer (some ⟨br,0,none⟩),.int .i64 a_] w' fun r w''=>r= .returned (.int .i64 E)∧RLeaves own τ2 w' br u w''):=fun own w' g h=>by
   rw [hE,hu]
   exact rCrash_any h a_
 have HR:=hide hR
 have HNE:=hide hne
 have HTOP:=hide hR.top
 clear hT hR hne hK hb hs ht hF hE hu
 unfold OpD.val OpD.cells opC prV
 dsimp only
 go_enter Tryz.func20,Tryz.ntmps20
 go_wp2_with fail
 generalize hW:World.alloc _ _=W0
 have T0:Turn nO w W0:=by rw [← hW];exact (Turn.alloc _ _ _).sA
 have b0:=box2_0 hW
 have b1:=box2_1 hW
 clear hW
 have KP':=hide (uH KP W0 T0)
 clear KP
 refine (uH KP').mono ?_
 rintro e w1 ⟨rfl,own1,A1,S1⟩
 obtain ⟨x1,y2,y3,y4,y5⟩:=chgC S1 b0 b1 (uH HTOP)
 have KR':=hide (uH KR own1 w1 g (((uH HR).turn T0).frame (S1.other (fun e=>uH HNE e.symm)) A1.top))
 have HA:=hide (And.intro T0 (And.intro S1 A1))
 clear b0 b1 KR KP' T0 S1 A1
 go_wp2_with fail
 refine (uH KR').mono ?_
 rintro e w2 ⟨rfl,⟨own2,g2,R2,S2⟩⟩
 have HB:=hide (And.intro S2 R2)
 clear R2 S2 KR' x1 y2 y3 y4 y5
 go_wp2_with (go_at_call 13;refine (num_any _ _).mono ?_;rintro e w' ⟨rfl,rfl⟩)
 go_ret
 obtain ⟨T0,S1,A1⟩:=uH HA
 obtain ⟨S2,R2⟩:=uH HB
 exact ⟨rfl,⟨own2,u,Both.mk' (uH HNE) T0 S1 A1 S2 R2 (Turn.refl _ _)⟩⟩
theorem changes_none (hT:TierAt own τ1 w bt b t) (hR:RLies own τ2 w br g t) (o:OpD) (hk:o.kind≤0) :
    Calls Tryz.prog 20 #[prV bt br,o.val] w fun r w'=>r= .returned (.bool true)∧Leave2 own τ1 τ2 w bt br (b+5) w':=by
 have HL:Hid (∀ w',Turn nO w w'→Leave2 own τ1 τ2 w bt br (b+5) w'):=fun w' T=>⟨own,t,⟨⟨own,w',Step.of_turn T,Step.refl _ _ _⟩,(hT.turn T).mono (by omega),⟨g,hR.turn T⟩⟩⟩
 obtain ⟨kind,on,a_,b_,s_,t_,pa,pc,zs,dr,bu,en,wa,m⟩:=o
 dsimp only at hk
 have k5:¬ kind=5:=by omega
 have k6:¬ kind=6:=by omega
 have k7:¬ kind=7:=by omega
 have k8:¬ kind=8:=by omega
 have k10:¬ kind=10:=by omega
 have k13:¬ kind=13:=by omega
 have k14:¬ kind=14:=by omega
 have k15:¬ kind=15:=by omega
 have k16:¬ kind=16:=by omega
 clear hT hR hk
 unfold OpD.val OpD.cells opC prV
 dsimp only
 go_enter Tryz.func20,Tryz.ntmps20
 go_wp2_with (go_at_call 13;refine (num_any _ _).mono ?_;rintro e w' ⟨rfl,rfl⟩)
 go_ret
 exact ⟨rfl,uH HL _ ((Turn.alloc _ _ _).sA)⟩
end
end Go.Proofs.YtpdkojgepagbnaaGreatDoor
