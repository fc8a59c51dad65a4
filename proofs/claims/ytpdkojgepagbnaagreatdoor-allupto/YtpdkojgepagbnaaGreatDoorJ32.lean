/-
  The document's tier: a fetch is sent.
  The document's tier: a fetch for some who wait is sent.
  The document's tier: one more waits for a fetch; a fetch is over.
  The document's tier: one is told, or must wait.
  The document's tier: one must wait, for a new fetch; every way together.
-/
import Derived.Test.YtpdkojgepagbnaaGreatDoorJ31
namespace Go.Proofs.YtpdkojgepagbnaaGreatDoor
set_option maxRecDepth 100000
set_option maxHeartbeats 8000000
section
open Go.RowKit
open Tier (Mes Ans Conf St Kept Wtr Ftc Cac)
attribute [local go_sem ↓] Go.wp_at_zero Go.wp_at_succ
variable {own own':Own} {τ:Nat} {w w1 w2 w':World} {br:Nat} {g g':RGh} {t t':St}
theorem infoFetch:(Tryz.prog.info? 176).map (fun i=>(i.zero,i.size,i.bytes))=some (some (.agg #[.string ⟨#[]⟩,.int .i64 0,.int .i64 0,.slice none 0 0]),4,56):=by kernel_rfl
theorem infoWaiter:(Tryz.prog.info? 149).map (fun i=>(i.zero,i.size,i.bytes))=some (some (.agg #[.int .i64 0,.int .i64 0,.int .i64 0,.int .i64 0]),4,32):=by kernel_rfl
structure FFine (t:St):Prop where
  pos:0≤t.serial
  ser:∀ n f,n<t.caches.length→f∈(t.cac n).fts→0<f.serial∧f.serial≤t.serial
  apart:∀ n m f f',n<t.caches.length→m<t.caches.length→f∈(t.cac n).fts→f'∈(t.cac m).fts→f.serial=f'.serial→n=m∧f=f'
  once:∀ n,n<t.caches.length→(t.cac n).fts.Pairwise (fun f f'=>f.serial≠f'.serial)
theorem RLies.serialed (h:RLies own τ w br g t) (s:Int):RLies own τ (w.setCell ⟨br,9,none⟩ (.int .i64 s)) br g { t with serial:=s }∧Step τ own own w (w.setCell ⟨br,9,none⟩ (.int .i64 s)):=by
  have T:Turn (fun k=>∃ x,x=1∧own k=some (τ,x)) w (w.setCell ⟨br,9,none⟩ (.int .i64 s)):=(Turn.refl _ _).sS (Or.inr ⟨1,rfl,h.blockO⟩)
  have F:Fr (fun x=>x=1) own own τ w (w.setCell ⟨br,9,none⟩ (.int .i64 s)):=fr_of T (fun _ _ _ _ _=>rfl)
  refine ⟨h.next _ F (fun k hk=>h.top k (by simpa using hk)) (by omega) rfl rfl rfl (by rw [heap_set h.block];rfl) h.blockO (Or.inl ⟨by omega,rfl,rfl⟩) ((h.cacs.heap (F.keep _ h.cacs.lt 4 (by omega) h.cacsO).1).like rfl (fun _=>rfl)) h.cacsO (Or.inl ⟨by omega,rfl,rfl⟩) (Or.inl ⟨by omega,rfl,rfl⟩) (fun n _=>Or.inl ⟨by omega,rfl,rfl⟩) (fun n _=>Or.inl ⟨by omega,rfl,rfl⟩) (fun n _ f hf=>Or.inl ⟨by omega,rfl,f,hf,rfl,rfl⟩),step_of T (fun _ _=>Or.inl rfl)⟩
theorem fts_map {lv:Int→Value} {S:Int} {v:Value} {l:List Ftc} (h:∀ f∈l,f.serial≠S):l.map (ftcL (fun s=>if s=S then v else lv s))=l.map (ftcL lv) :=
  List.map_congr_left (fun f hf=>by unfold ftcL;dsimp only;rw [if_neg (h f hf)])
theorem lab_ne {own:Own} {q τ a b:Nat} (h1:own q=some (τ,a)) (h2:own q=some (τ,b)):a=b:=by rw [h1] at h2;injection h2 with h2;injection h2
theorem RLies.fetched (h:RLies own τ w br g t) {n:Nat} (hn:n<t.caches.length) {k:ByteArray} {sent:Int} {l:List Wtr} {v:Value} {S:Int} (hnew:∀ m f,m<t.caches.length→f∈(t.cac m).fts→0<f.serial∧f.serial≠S) {gb cap:Nat}
    (hv:Row own τ 7 w 149 4 v (l.map wtrL))
    (hO:w1.ownsRow 0 176 4 (.slice (some ⟨gb,0,none⟩) (((t.cac n).fts.map (ftcL g.lv)).length+1) cap) (((t.cac n).fts.map (ftcL g.lv)).length+1) (((t.cac n).fts.map (ftcL g.lv)).flatten ++ [.string k,.int .i64 S,.int .i64 sent,v])) (hg:w.grownBy w1 (g.fv n).ownBlock) (hat:(g.fv n).ownBlock=some gb∨gb=w.heap.size) (hlt:gb<w1.heap.size) :
    ∃ own' g',RLies own' τ (w1.setCell ⟨g.bc,n*3+2,none⟩ (.slice (some ⟨gb,0,none⟩) (((t.cac n).fts.map (ftcL g.lv)).length+1) cap)) br g' (t.setCac n { t.cac n with fts:=(t.cac n).fts ++ [⟨k,S,sent,l⟩] })∧Step τ own own' w (w1.setCell ⟨g.bc,n*3+2,none⟩ (.slice (some ⟨gb,0,none⟩) (((t.cac n).fts.map (ftcL g.lv)).length+1) cap)):=by
 generalize hz:Value.slice (some ⟨gb,0,none⟩) (((t.cac n).fts.map (ftcL g.lv)).length+1) cap=z at *
 have h6:=h.few
 have hgb:own gb=some (τ,20+n)∨w.heap.size≤gb:=hat.imp (fun h1=>(h.fts n hn).mine gb h1) (fun h1=>by omega)
 have hgb1:moveO own (τ,7) (τ,40+S.toNat) gb=some (τ,20+n)∨w.heap.size≤gb:=hgb.imp (fun e=>by unfold moveO;rw [if_neg (fun c=>by have:=lab_ne e c;omega)];exact e) id
 have hown:∀ q,q<w.heap.size→∀ x,x≠7→own q=some (τ,x)→putO (moveO own (τ,7) (τ,40+S.toNat)) gb (τ,20+n) q=own q:=fun q hq x hx ho=>by
   rw [putO_same hgb1 hq]
   unfold moveO
   rw [if_neg (by rw [ho];intro c;cases c;exact hx rfl)]
 have hown7:∀ q,q<w.heap.size→own q=some (τ,7)→putO (moveO own (τ,7) (τ,40+S.toNat)) gb (τ,20+n) q=some (τ,40+S.toNat):=fun q hq ho=>by
   rw [putO_same hgb1 hq]
   unfold moveO
   rw [if_pos ho]
 have hbcgb:g.bc≠gb:=by
   rintro e
   rcases hgb with h1|h1
   ·rw [← e] at h1;have:=lab_ne h.cacsO h1;omega
   ·have:=h.cacs.lt;omega
 have T:Turn (fun q=>∃ x,(x=4∨x=20+n)∧own q=some (τ,x)) w (w1.setCell ⟨g.bc,n*3+2,none⟩ z) :=
   ⟨hg.os,hg.tape,hg.output,by simpa using hg.size,fun q hq hm=>(hSO (fun e=>hm ⟨4,Or.inl rfl,by rw [e];exact h.cacsO⟩)).trans (hg.block q hq (fun e=>hm ⟨20+n,Or.inr rfl,(h.fts n hn).mine q e.symm⟩))⟩
 have F:Fr (fun x=>x=4∨x=20+n∨x=7) own (putO (moveO own (τ,7) (τ,40+S.toNat)) gb (τ,20+n)) τ w (w1.setCell ⟨g.bc,n*3+2,none⟩ z) :=
   ⟨fun q hq x hx ho=>⟨T.block q hq (fun ⟨y,hy,hyo⟩=>by have e:=lab_ne ho hyo;subst e;exact hx (hy.imp id (fun e=>Or.inl e))),hown q hq x (fun e=>hx (Or.inr (Or.inr e))) ho⟩⟩
 have hcac:∀ m,(t.setCac n { t.cac n with fts:=(t.cac n).fts ++ [⟨k,S,sent,l⟩] }).cac m=if m=n then { t.cac n with fts:=(t.cac n).fts ++ [⟨k,S,sent,l⟩] } else t.cac m:=fun m=>by
   rw [Tier.cac_set]
   by_cases e:m=n
   ·rw [if_pos ⟨e,hn⟩,if_pos e]
   ·rw [if_neg (fun c=>e c.1),if_neg e]
 have hbc1:w1.heap[g.bc]?=w.heap[g.bc]?:=hg.block g.bc h.cacs.lt (fun e=>by have:=lab_ne h.cacsO ((h.fts n hn).mine g.bc e.symm);omega)
 refine ⟨putO (moveO own (τ,7) (τ,40+S.toNat)) gb (τ,20+n),{ g with fv:=fun m=>if m=n then z else g.fv m,lv:=fun s=>if s=S then v else g.lv s },h.next _ F (fun q hq=>?_) (by omega) (Tier.length_set t n _) rfl rfl ?_ (by rw [hown br h.lt 1 (by omega) h.blockO];exact h.blockO) (Or.inl ⟨by omega,rfl,rfl⟩) ?_ (by show putO _ _ _ g.bc=_;rw [hown g.bc h.cacs.lt 4 (by omega) h.cacsO];exact h.cacsO) (Or.inl ⟨by omega,rfl,rfl⟩) (Or.inl ⟨by omega,rfl,rfl⟩) (fun m hm=>Or.inl ⟨by omega,rfl,?_⟩) (fun m hm=>?_) (fun m hm f hf=>?_),⟨T.mono (fun q _ ⟨x,_,hx⟩=>⟨x,hx⟩),fun q hq=>?_⟩⟩
 ·have hq1:w1.heap.size≤q:=by simpa using hq
  have h0:=h.top q (by have:=hg.size;omega)
  unfold putO moveO
  rw [if_neg (by omega),if_neg (by rw [h0];intro c;cases c)]
  exact h0
 ·have:=F.block h.blockO (by omega) h.block
  rw [this]
  unfold refC
  rw [Tier.length_set];rfl
 ·refine (h.cacs.heap hbc1).put hn (by omega) z (Tier.length_set t n _) (fun m hm=>?_) (fun m hm=>?_) (fun m hm=>?_)
  ·rw [if_neg (by omega),hcac]
   split
   ·next e=>rw [e]
   ·rfl
  ·rw [if_neg (by omega)]
  ·show (if m=n∧2=2 then z else g.fv m)=(if m=n then z else g.fv m)
   by_cases e:m=n
   ·rw [if_pos ⟨e,rfl⟩,if_pos e]
   ·rw [if_neg (fun c=>e c.1),if_neg e]
 ·rw [hcac]
  split
  ·next e=>rw [e]
  ·rfl
 ·by_cases e:m=n
  ·subst e
   refine Or.inr ?_
   rw [hcac,if_pos rfl]
   show Row _ _ _ _ _ _ (if m=m then z else g.fv m) (((t.cac m).fts ++ [Ftc.mk k S sent l]).map (ftcL (fun s=>if s=S then v else g.lv s)))
   rw [if_pos rfl,List.map_append,fts_map (fun f hf=>(hnew m f hm hf).2)]
   have hr:=row_grown (own:=moveO own (τ,7) (τ,40+S.toNat)) (τ:=τ) (x:=20+m) (w2:=w1.setCell ⟨g.bc,m*3+2,none⟩ z) (hz ▸ hO) (hSO (Ne.symm hbcgb))
   rw [hz] at hr
   have e4:List.map (ftcL fun s=>if s=S then v else g.lv s) [(Ftc.mk k S sent l)]=[[.string k,.int .i64 S,.int .i64 sent,v]]:=by simp [ftcL]
   rw [e4]
   exact hr
  ·refine Or.inl ⟨by omega,?_,?_⟩
   ·show (if m=n then z else g.fv m)=_
    rw [if_neg e]
   ·rw [hcac,if_neg e]
    exact fts_map (fun f hf=>(hnew m f hm hf).2)
 ·have hcase:(f∈(t.cac m).fts)∨(m=n∧f=⟨k,S,sent,l⟩):=by
    rw [hcac] at hf
    by_cases e:m=n
    ·rw [if_pos e] at hf
     rcases List.mem_append.1 hf with hf|hf
     ·exact Or.inl (by rw [e];exact hf)
     ·exact Or.inr ⟨e,List.mem_singleton.1 hf⟩
    ·rw [if_neg e] at hf;exact Or.inl hf
  rcases hcase with hf|⟨_,rfl⟩
  ·obtain ⟨p1,p2⟩:=hnew m f hm hf
   refine Or.inl ⟨by omega,?_,f,hf,rfl,rfl⟩
   show (if f.serial=S then v else g.lv f.serial)=_
   rw [if_neg p2]
  ·refine Or.inr ?_
   show Row _ _ _ _ _ _ (if S=S then v else g.lv S) _
   rw [if_pos rfl]
   have hlt7:=hv.row.lt
   obtain ⟨⟨hl',hv'⟩,hmn⟩:=hv
   refine ⟨⟨hl',?_⟩,fun q hq=>hown7 q (hlt7 q hq).2 (hmn q hq)⟩
   rcases hv' with hv'|⟨gb',cap',cur,hv',hb,hgb',r⟩
   ·exact Or.inl hv'
   ·exact Or.inr ⟨gb',cap',cur,hv',hb,(T.block gb' (hlt7 gb' (by rw [hv'];rfl)).2 (fun ⟨y,hy,hyo⟩=>by
      have:=lab_ne (hmn gb' (by rw [hv'];rfl)) hyo
      omega)).trans hgb',r⟩
 ·by_cases e:own q=some (τ,7)
  ·exact Or.inr ⟨⟨7,e⟩,Or.inr ⟨40+S.toNat,hown7 q hq e⟩⟩
  ·refine Or.inl ?_
   rw [putO_same hgb1 hq]
   unfold moveO
   rw [if_neg e]
theorem rsends_any (h:RLies own τ w br g t) (hfi:FFine t) {n:Nat} (hn:n<t.caches.length) (hp:t.c.parents.length=t.caches.length) (hs:t.serial<1000000000000) (hl1:t.net.length<1000000000000) (hl2:(t.cac n).fts.length<1000000) (k:ByteArray) (tag:Int) (l:List Wtr) (v:Value) (hv:Row own τ 7 w 149 4 v (l.map wtrL)) :
    Calls Tryz.prog 110 #[.pointer (some ⟨br,0,none⟩),.int .i64 (n:Int),.string k,.int .i64 tag,v] w fun r w'=>r= .returned (.tuple #[])∧RLeaves own τ w br (t.sends n k tag l) w':=by
 obtain ⟨fi,fhi,fz0,fz1,fz2⟩:=info_parts infoFetch
 obtain ⟨mi,mhi,mz0,mz1,mz2⟩:=info_parts infoMes
 obtain ⟨va,vc,rfl⟩:=rowForm hv
 have d9:w.cell? ⟨br,9,none⟩=some (.int .i64 t.serial):=cOf h.block 9
 have f9:w.frozen? ⟨br,9,none⟩=false:=fOf h.block 9
 have hsw:IntKind.i64.wrap (t.serial+1)=t.serial+1:=by rw [IntKind.wrap_i64];have:=hfi.pos;omega
 obtain ⟨R1,S1⟩:=h.serialed (t.serial+1)
 have hv1:Hid (Row own τ 7 (w.setCell ⟨br,9,none⟩ (.int .i64 (t.serial+1))) 149 4 (.slice va l.length vc) (l.map wtrL)) :=
   hv.frame (fun q hq ho=>⟨hSO (fun e=>by rw [e,h.blockO] at ho;injection ho with ho;injection ho with _ ho;omega),rfl⟩)
 have hnew:Hid (∀ m f,m<t.caches.length→f∈(t.cac m).fts→0<f.serial∧f.serial≠t.serial+1):=fun m f hm hf=>by have:=hfi.ser m f hm hf;omega
 have HR1:=hide R1
 have HS1:=hide S1
 have HN:=hide hn
 have HP:=hide hp
 have HL:=hide (And.intro hl1 hl2)
 have hbr:=h.lt
 have n0:(0:Int)≤(n:Int):=by omega
 have n1:(n:Int)<(t.caches.length:Int):=by omega
 clear h hv R1 S1 hfi hs hp hl1 hl2 hn
 go_enter Tryz.func110,Tryz.ntmps110
 go_upto_region 1 with fail
 generalize hY:World.setCell _ _ _=W0 at HR1 HS1 hv1 ⊢
 clear hY d9 f9
 obtain ⟨k0,k1,k2,kf⟩:=(uH HR1).cacs.at_ (uH HN)
 have k0:W0.cell? ⟨g.bc,n*3,none⟩=some (.int .i64 (t.cac n).clock):=k0
 have c6:W0.cell? ⟨br,6,none⟩=some (.slice (some ⟨g.bc,0,none⟩) t.caches.length t.caches.length):=cOf (uH HR1).block 6
 have c9:W0.cell? ⟨br,9,none⟩=some (.int .i64 (t.serial+1)):=cOf (uH HR1).block 9
 have k2f:W0.frozen? ⟨g.bc,n*3+2,none⟩=false:=kf _
 have xne:some g.bc≠(g.fv n).ownBlock:=fun e=>by have:=lab_ne (uH HR1).cacsO (((uH HR1).fts n (uH HN)).mine _ e.symm);have:=(uH HR1).few;omega
 have nb9:¬ (br=g.bc∨some br=(g.fv n).ownBlock):=fun h=>h.elim (fun e=>by have h1:=(uH HR1).cacsO;rw [← e] at h1;have:=lab_ne (uH HR1).blockO h1;omega) (fun e=>by have:=lab_ne (uH HR1).blockO (((uH HR1).fts n (uH HN)).mine _ e.symm);omega)
 have hN:=hide ((uH HR1).fts n (uH HN)).row
 have hN:Hid (W0.ownsRow 0 176 4 (g.fv n) ((t.cac n).fts.map (ftcL g.lv)).length ((t.cac n).fts.map (ftcL g.lv)).flatten):=uH hN
 have hlen':((t.cac n).fts.map (ftcL g.lv)).length<1000000:=by rw [List.length_map];exact (uH HL).2
 have hbc:g.bc<W0.heap.size:=(uH HR1).cacs.lt
 have hne0:g.bc≠W0.heap.size:=by omega
 have hrb:br<W0.heap.size:=(uH HR1).lt
 have c16a:∀ o,(W0.alloc o).cell? ⟨g.bc,n*3+2,none⟩=some (g.fv n):=fun o=>(Turn.alloc nO W0 o).cell k2 id
 generalize hS:t.serial+1=S at *
 have HSS:=hide hS
 clear hS
 generalize hck:(t.cac n).clock=ck at *
 have HCK:=hide hck
 clear hck
 go_wp2
 go_cut [10] from 24 to 43 (fun s10 wx=>s10= .pointer (some ⟨g.bc,n*3,none⟩)∧Hid (∃ own' g',RLies own' τ wx br g' (({ t with serial:=S }:St).setCac n { t.cac n with fts:=(t.cac n).fts ++ [⟨k,S,ck,l⟩] })∧Step τ own own' W0 wx))
 case first =>
   generalize hxs:((t.cac n).fts.map (ftcL g.lv)).flatten=xs at *
   generalize hm:((t.cac n).fts.map (ftcL g.lv)).length=m at *
   have hm1:m+1≤maxLen:=by unfold maxLen;omega
   have hm2:(m+1)*56≤140737488355328:=by omega
   have HS:∀ w',Turn (fun q=>q=g.bc∨some q=(g.fv n).ownBlock) W0 w'→w'.cell? ⟨g.bc,n*3,none⟩=some (.int .i64 ck)→Turn (fun q=>q=g.bc∨some q=(g.fv n).ownBlock) W0 w'∧w'.cell? ⟨br,9,none⟩=some (.int .i64 S)∧w'.cell? ⟨g.bc,n*3,none⟩=some (.int .i64 ck):=fun w' T X1=>⟨T,T.cell c9 (nb9),X1⟩
   refine wp_region_noPanic ?_
   refine wp_region_held_drew (S:=fun w'=>Turn (fun q=>q=g.bc∨some q=(g.fv n).ownBlock) W0 w'∧w'.cell? ⟨br,9,none⟩=some (.int .i64 S)∧w'.cell? ⟨g.bc,n*3,none⟩=some (.int .i64 ck)) (by kernel_rfl) (HS _ ((Turn.refl _ _).sD) (((Turn.refl nO _).sD).cell k0 id)) (fun hHeld=>?_)
   refine tkE (i:=0) (v:=?_) rfl ?hy ?_
   case hy=>intro w hSw;(try dsimp only at hSw);go_simp;(try with_reducible rfl)
   (try go_frame)
   refine tkE (i:=1) (v:=?_) rfl ?hy ?_
   case hy=>intro w hSw;(try dsimp only at hSw);go_simp;(try with_reducible rfl)
   (try go_frame)
   refine tkE (i:=2) (v:=?_) rfl ?hy ?_
   case hy=>intro w hSw;(try dsimp only at hSw);go_simp;(try with_reducible rfl)
   (try go_frame)
   refine tkE (i:=3) (v:=?_) rfl ?hy ?_
   case hy=>intro w hSw;(try dsimp only at hSw);go_simp;(try with_reducible rfl)
   (try go_frame)
   refine tkE (i:=5) (v:=?_) rfl ?hy ?_
   case hy=>intro w hSw;(try dsimp only at hSw);go_simp;(try with_reducible rfl)
   (try go_frame)
   refine tkE (i:=6) (v:=?_) rfl ?hy ?_
   case hy=>intro w hSw;(try dsimp only at hSw);go_simp;(try with_reducible rfl)
   (try go_frame)
   refine tkE (i:=7) (v:=?_) rfl ?hy ?_
   case hy=>intro w hSw;(try dsimp only at hSw);go_simp;(try with_reducible rfl)
   (try go_frame)
   refine tkE (i:=8) (v:=?_) rfl ?hy ?_
   case hy=>intro w hSw;(try dsimp only at hSw);go_simp;(try with_reducible rfl)
   (try go_frame)
   refine tkE (i:=9) (v:=?_) rfl ?hy ?_
   case hy=>intro w hSw;(try dsimp only at hSw);go_simp;(try with_reducible rfl)
   (try go_frame)
   refine tkE (i:=10) (v:=?_) rfl ?hy ?_
   case hy=>intro w hSw;(try dsimp only at hSw);go_simp;(try with_reducible rfl)
   (try go_frame)
   refine tkE (i:=11) (v:=?_) rfl ?hy ?_
   case hy=>intro w hSw;(try dsimp only at hSw);go_simp;(try with_reducible rfl)
   (try go_frame)
   refine tkE (i:=12) (v:=?_) rfl ?hy ?_
   case hy=>intro w hSw;(try dsimp only at hSw);go_simp;(try with_reducible rfl)
   (try go_frame)
   refine tkE (i:=13) (v:=?_) rfl ?hy ?_
   case hy=>intro w hSw;(try dsimp only at hSw);go_simp;(try with_reducible rfl)
   (try go_frame)
   refine tkE (i:=14) (v:=?_) rfl ?hy ?_
   case hy=>intro w hSw;(try dsimp only at hSw);go_simp;(try with_reducible rfl)
   (try go_frame)
   refine tkE (i:=15) (v:=?_) rfl ?hy ?_
   case hy=>intro w hSw;(try dsimp only at hSw);go_simp;(try with_reducible rfl)
   (try go_frame)
   refine wpAnyH_ready (rs:=[4,16]) (by kernel_rfl) (by simp) ?_
   refine AllReadyH.cons rfl (fun K hK=>?_) (AllReadyH.cons rfl (fun K hK=>?_) AllReadyH.nil)
   ·go_simp
    refine hK.out _ _ (HS _ ((Turn.refl _ _).sD) (((Turn.refl nO _).sD).cell k0 id)) (fun hHeld=>?_)
    clear hK K
    refine wpAnyH_ready (rs:=[16]) (by kernel_rfl) (by simp) ?_
    refine AllReadyH.cons rfl (fun K hK=>?_) AllReadyH.nil
    go_simp
    refine hK.out _ _ (HS _ tAD (((Turn.refl nO _).sA.sD).cell k0 id)) (fun hHeld=>?_)
    clear hK K
    refine wpAnyH_ready (rs:=[17]) (by kernel_rfl) (by simp) ?_
    refine AllReadyH.cons rfl (fun K hK=>?_) AllReadyH.nil
    refine step_append_lies _ (by rfl) _ _ _ (by rfl) 0 176 fi _ 4 56 Tryz.underlying131 fhi fz0 fz1 fz2 rfl (by omega) (g.fv n) m xs (by rfl) ((uH hN).alloc _).drew ⟨W0.heap.size,0,none⟩ 1 1 [.string k,.int .i64 S,.int .i64 ck,.slice va l.length vc] (by rfl) (by rfl) (World.news_of_block (cs:=#[.string k,.int .i64 S,.int .i64 ck,.slice va l.length vc]) (t:=176) (fr:=(0,0)) (heap_alloc_new W0 _)) (by simp [Value.oneCell']) (by omega) hm1 hm2 (by simp) (W0.heap.size+1) (by simp) ?_;intro gb cap w1 hown1 hgrow hat hlt;have q16:=far_cell hgrow k2 xne;have q16f:=far_froz hgrow k2 k2f xne
    refine hK.out _ _ (HS _ (tADG hgrow) (far_cell hgrow k0 (by assumption))) (fun hHeld=>?_)
    clear hK K
    refine tkE (i:=18) (v:=?_) rfl ?hy ?_
    case hy=>intro w hSw;(try dsimp only at hSw);go_simp;(try with_reducible rfl)
    (try go_frame)
    refine tkE (i:=19) (v:=?_) rfl ?hy ?_
    case hy=>intro w hSw;(try dsimp only at hSw);go_simp;(try with_reducible rfl)
    (try go_frame)
    refine wpAnyH_ready (rs:=[20]) (by kernel_rfl) (by simp) ?_
    refine AllReadyH.cons rfl (fun K hK=>?_) AllReadyH.nil
    go_simp
    refine hK.out _ _ (HS _ (tADGS hgrow) ((World.cell?_setCell_other _ _ _ _ (by simp <;> omega)).trans (far_cell hgrow k0 (by assumption)))) (fun hHeld=>?_)
    clear hK K
    refine wpAnyH_done (by kernel_rfl) ?_ _
    refine NoPanic.normal ?_
    go_split_ands
    clear HS
    subst hm
    subst hxs
    obtain ⟨o2,g2,L,S2⟩:=((uH HR1).turn ((Turn.alloc nO W0 _).sD)).fetched (uH HN) (S:=S) (fun m f hm hf=>uH hnew m f hm hf) ((uH hv1).frame (fun q hq _=>⟨((Turn.alloc nO W0 _).sD).block q hq id,rfl⟩)) hown1 hgrow (hat.imp id (fun e=>by rw [e];simp)) hlt
    have HE:Hid (∃ own' g',RLies own' τ _ br g' (({ t with serial:=S }:St).setCac n { t.cac n with fts:=(t.cac n).fts ++ [⟨k,S,ck,l⟩] })∧Step τ own own' W0 _):=⟨o2,g2,L,(Step.of_turn ((Turn.alloc nO W0 _).sD)).trans S2⟩
    clear L S2 hown1 hgrow
    rw [List.length_map] at HE
    go_wp2
    go_meet
    exact ⟨rfl,HE⟩
   ·go_simp
    refine hK.out _ _ (HS _ tAD (((Turn.refl nO _).sA.sD).cell k0 id)) (fun hHeld=>?_)
    clear hK K
    refine wpAnyH_ready (rs:=[4]) (by kernel_rfl) (by simp) ?_
    refine AllReadyH.cons rfl (fun K hK=>?_) AllReadyH.nil
    go_simp
    refine hK.out _ _ (HS _ tAD (((Turn.refl nO _).sA.sD).cell k0 id)) (fun hHeld=>?_)
    clear hK K
    refine wpAnyH_ready (rs:=[17]) (by kernel_rfl) (by simp) ?_
    refine AllReadyH.cons rfl (fun K hK=>?_) AllReadyH.nil
    refine step_append_lies _ (by rfl) _ _ _ (by rfl) 0 176 fi _ 4 56 Tryz.underlying131 fhi fz0 fz1 fz2 rfl (by omega) (g.fv n) m xs (by rfl) ((uH hN).alloc _).drew ⟨W0.heap.size,0,none⟩ 1 1 [.string k,.int .i64 S,.int .i64 ck,.slice va l.length vc] (by rfl) (by rfl) (World.news_of_block (cs:=#[.string k,.int .i64 S,.int .i64 ck,.slice va l.length vc]) (t:=176) (fr:=(0,0)) (heap_alloc_new W0 _)) (by simp [Value.oneCell']) (by omega) hm1 hm2 (by simp) (W0.heap.size+1) (by simp) ?_;intro gb cap w1 hown1 hgrow hat hlt;have q16:=far_cell hgrow k2 xne;have q16f:=far_froz hgrow k2 k2f xne
    refine hK.out _ _ (HS _ (tADG hgrow) (far_cell hgrow k0 (by assumption))) (fun hHeld=>?_)
    clear hK K
    refine tkE (i:=18) (v:=?_) rfl ?hy ?_
    case hy=>intro w hSw;(try dsimp only at hSw);go_simp;(try with_reducible rfl)
    (try go_frame)
    refine tkE (i:=19) (v:=?_) rfl ?hy ?_
    case hy=>intro w hSw;(try dsimp only at hSw);go_simp;(try with_reducible rfl)
    (try go_frame)
    refine wpAnyH_ready (rs:=[20]) (by kernel_rfl) (by simp) ?_
    refine AllReadyH.cons rfl (fun K hK=>?_) AllReadyH.nil
    go_simp
    refine hK.out _ _ (HS _ (tADGS hgrow) ((World.cell?_setCell_other _ _ _ _ (by simp <;> omega)).trans (far_cell hgrow k0 (by assumption)))) (fun hHeld=>?_)
    clear hK K
    refine wpAnyH_done (by kernel_rfl) ?_ _
    refine NoPanic.normal ?_
    go_split_ands
    clear HS
    subst hm
    subst hxs
    obtain ⟨o2,g2,L,S2⟩:=((uH HR1).turn ((Turn.alloc nO W0 _).sD)).fetched (uH HN) (S:=S) (fun m f hm hf=>uH hnew m f hm hf) ((uH hv1).frame (fun q hq _=>⟨((Turn.alloc nO W0 _).sD).block q hq id,rfl⟩)) hown1 hgrow (hat.imp id (fun e=>by rw [e];simp)) hlt
    have HE:Hid (∃ own' g',RLies own' τ _ br g' (({ t with serial:=S }:St).setCac n { t.cac n with fts:=(t.cac n).fts ++ [⟨k,S,ck,l⟩] })∧Step τ own own' W0 _):=⟨o2,g2,L,(Step.of_turn ((Turn.alloc nO W0 _).sD)).trans S2⟩
    clear L S2 hown1 hgrow
    rw [List.length_map] at HE
    go_wp2
    go_meet
    exact ⟨rfl,HE⟩
 case rest =>
   obtain ⟨rfl,HC⟩:=hcut
   clear k0 k1 k2 kf k2f c6 c9 xne nb9 hN hv1 c16a hne0 hbc HR1 hlen' hnew hrb
   have HS1:=HS1
   rename World=>V
   obtain ⟨own2,g2,R2,S2⟩:=uH HC
   have HST:Hid (Step τ own own2 w V):=(uH HS1).trans S2
   have HR2:=hide R2
   clear HC R2 S2 HS1
   obtain ⟨pa,pc,hpv⟩:=row_form (uH HR2).pars.row
   rw [List.length_map] at hpv
   have hpv:g2.pv= .slice pa t.c.parents.length pc:=hpv
   have d0:V.cell? ⟨br,0,none⟩=some (.slice pa t.c.parents.length pc):=by rw [← hpv];exact cOf (uH HR2).block 0
   have d9:V.cell? ⟨br,9,none⟩=some (.int .i64 S):=cOf (uH HR2).block 9
   obtain ⟨px,hpx⟩:∃ px,t.c.parents[n]?=some px:=⟨_,List.getElem?_eq_getElem (by have:=uH HN;have:=uH HP;omega)⟩
   obtain ⟨pb,pc',epv,hpo,hpb,hpc,_⟩:=rowAt (l:=t.c.parents) (f:=fun n=>[Value.int .i64 n]) (uH HR2).pars (fun _=>rfl) hpx
   rw [hpv] at epv
   cases epv
   have dp:V.cell? ⟨pb,n,none⟩=some (.int .i64 px):=by have:=hpc 0 (by omega);rw [Nat.mul_one,Nat.add_zero] at this;exact this
   have HPX:Hid (t.c.parents.getD n 0=px):=by show _=_;rw [List.getD_eq_getElem?_getD,hpx];rfl
   have p1:(n:Int)<(t.c.parents.length:Int):=by have:=uH HN;have:=uH HP;omega
   have c16:V.cell? ⟨br,7,none⟩=some g2.nv:=cOf (uH HR2).block 7
   have f16:V.frozen? ⟨br,7,none⟩=false:=fOf (uH HR2).block 7
   have hN:Hid (V.ownsRow 0 37 9 g2.nv (t.net.map mesL).length (t.net.map mesL).flatten):=(uH HR2).net.row
   have xne:some br≠g2.nv.ownBlock:=fun e=>by have:=lab_ne (uH HR2).blockO ((uH HR2).net.mine _ e.symm);omega
   have nb0:¬ (pb=br∨some pb=g2.nv.ownBlock):=fun h=>h.elim (fun e=>by rw [e] at hpo;have:=lab_ne (uH HR2).blockO hpo;omega) (fun e=>by have:=lab_ne hpo ((uH HR2).net.mine _ e.symm);omega)
   have c16a:∀ o,(V.alloc o).cell? ⟨br,7,none⟩=some g2.nv:=fun o=>(Turn.alloc nO V o).cell c16 id
   have hbt:br<V.heap.size:=(uH HR2).lt
   have hne0:br≠V.heap.size:=by omega
   have hlen':(t.net.map mesL).length<1000000000000:=by rw [List.length_map];exact (uH HL).1
   have HFIN:Hid (t.sends n k tag l={ (({ t with serial:=S }:St).setCac n { t.cac n with fts:=(t.cac n).fts ++ [⟨k,S,ck,l⟩] }) with net:=t.net ++ [⟨1,n,px,k,S,tag,0,0,Tier.empty⟩] }):=by
     show _=_
     unfold Tier.St.sends Tier.St.setCac
     rw [uH HPX,uH HCK,uH HSS]
   generalize hxs:(t.net.map mesL).flatten=xs at *
   generalize hm:(t.net.map mesL).length=m at *
   have hm1:m+1≤maxLen:=by unfold maxLen;omega
   have hm2:(m+1)*88≤140737488355328:=by omega
   clear hpv hpx hpc
   generalize t.c.parents.length=pl at *
   rename World=>W0
   go_wp2
   have HS:∀ w',Turn (fun q=>q=br∨some q=g2.nv.ownBlock) W0 w'→w'.cell? ⟨br,0,none⟩=some (.slice (some ⟨pb,0,none⟩) pl pc)→w'.cell? ⟨br,9,none⟩=some (.int .i64 S)→Turn (fun q=>q=br∨some q=g2.nv.ownBlock) W0 w'∧w'.cell? ⟨pb,n,none⟩=some (.int .i64 px)∧w'.cell? ⟨br,0,none⟩=some (.slice (some ⟨pb,0,none⟩) pl pc)∧w'.cell? ⟨br,9,none⟩=some (.int .i64 S):=fun w' T X1 X2=>⟨T,T.cell dp (nb0),X1,X2⟩
   refine wp_region_noPanic ?_
   refine wp_region_held_drew (S:=fun w'=>Turn (fun q=>q=br∨some q=g2.nv.ownBlock) W0 w'∧w'.cell? ⟨pb,n,none⟩=some (.int .i64 px)∧w'.cell? ⟨br,0,none⟩=some (.slice (some ⟨pb,0,none⟩) pl pc)∧w'.cell? ⟨br,9,none⟩=some (.int .i64 S)) (by kernel_rfl) (HS _ ((Turn.refl _ _).sD) (((Turn.refl nO _).sD).cell d0 id) (((Turn.refl nO _).sD).cell d9 id)) (fun hHeld=>?_)
   refine tkE (i:=0) (v:=?_) rfl ?hy ?_
   case hy=>intro w hSw;(try dsimp only at hSw);go_simp;(try with_reducible rfl)
   (try go_frame)
   refine tkE (i:=1) (v:=?_) rfl ?hy ?_
   case hy=>intro w hSw;(try dsimp only at hSw);go_simp;(try with_reducible rfl)
   (try go_frame)
   refine tkE (i:=2) (v:=?_) rfl ?hy ?_
   case hy=>intro w hSw;(try dsimp only at hSw);go_simp;(try with_reducible rfl)
   (try go_frame)
   refine tkE (i:=3) (v:=?_) rfl ?hy ?_
   case hy=>intro w hSw;(try dsimp only at hSw);go_simp;(try with_reducible rfl)
   (try go_frame)
   refine tkE (i:=5) (v:=?_) rfl ?hy ?_
   case hy=>intro w hSw;(try dsimp only at hSw);go_simp;(try with_reducible rfl)
   (try go_frame)
   refine tkE (i:=6) (v:=?_) rfl ?hy ?_
   case hy=>intro w hSw;(try dsimp only at hSw);go_simp;(try with_reducible rfl)
   (try go_frame)
   refine tkE (i:=7) (v:=?_) rfl ?hy ?_
   case hy=>intro w hSw;(try dsimp only at hSw);go_simp;(try with_reducible rfl)
   (try go_frame)
   refine tkE (i:=8) (v:=?_) rfl ?hy ?_
   case hy=>intro w hSw;(try dsimp only at hSw);go_simp;(try with_reducible rfl)
   (try go_frame)
   refine tkE (i:=9) (v:=?_) rfl ?hy ?_
   case hy=>intro w hSw;(try dsimp only at hSw);go_simp;(try with_reducible rfl)
   (try go_frame)
   refine tkE (i:=10) (v:=?_) rfl ?hy ?_
   case hy=>intro w hSw;(try dsimp only at hSw);go_simp;(try with_reducible rfl)
   (try go_frame)
   refine tkE (i:=11) (v:=?_) rfl ?hy ?_
   case hy=>intro w hSw;(try dsimp only at hSw);go_simp;(try with_reducible rfl)
   (try go_frame)
   refine tkE (i:=12) (v:=?_) rfl ?hy ?_
   case hy=>intro w hSw;(try dsimp only at hSw);go_simp;(try with_reducible rfl)
   (try go_frame)
   refine tkE (i:=13) (v:=?_) rfl ?hy ?_
   case hy=>intro w hSw;(try dsimp only at hSw);go_simp;(try with_reducible rfl)
   (try go_frame)
   refine tkE (i:=14) (v:=?_) rfl ?hy ?_
   case hy=>intro w hSw;(try dsimp only at hSw);go_simp;(try with_reducible rfl)
   (try go_frame)
   refine tkE (i:=15) (v:=?_) rfl ?hy ?_
   case hy=>intro w hSw;(try dsimp only at hSw);go_simp;(try with_reducible rfl)
   (try go_frame)
   refine tkE (i:=16) (v:=?_) rfl ?hy ?_
   case hy=>intro w hSw;(try dsimp only at hSw);go_simp;(try with_reducible rfl)
   (try go_frame)
   refine tkE (i:=17) (v:=?_) rfl ?hy ?_
   case hy=>intro w hSw;(try dsimp only at hSw);go_simp;(try with_reducible rfl)
   (try go_frame)
   refine tkE (i:=18) (v:=?_) rfl ?hy ?_
   case hy=>intro w hSw;(try dsimp only at hSw);go_simp;(try with_reducible rfl)
   (try go_frame)
   refine tkE (i:=19) (v:=?_) rfl ?hy ?_
   case hy=>intro w hSw;(try dsimp only at hSw);go_simp;(try with_reducible rfl)
   (try go_frame)
   refine tkE (i:=20) (v:=?_) rfl ?hy ?_
   case hy=>intro w hSw;(try dsimp only at hSw);go_simp;(try with_reducible rfl)
   (try go_frame)
   refine wpAnyH_ready (rs:=[4,21]) (by kernel_rfl) (by simp) ?_
   refine AllReadyH.cons rfl (fun K hK=>?_) (AllReadyH.cons rfl (fun K hK=>?_) AllReadyH.nil)
   ·go_simp
    refine hK.out _ _ (HS _ ((Turn.refl _ _).sD) (((Turn.refl nO _).sD).cell d0 id) (((Turn.refl nO _).sD).cell d9 id)) (fun hHeld=>?_)
    clear hK K
    refine wpAnyH_ready (rs:=[21]) (by kernel_rfl) (by simp) ?_
    refine AllReadyH.cons rfl (fun K hK=>?_) AllReadyH.nil
    go_simp
    refine hK.out _ _ (HS _ tAD (((Turn.refl nO _).sA.sD).cell d0 id) (((Turn.refl nO _).sA.sD).cell d9 id)) (fun hHeld=>?_)
    clear hK K
    refine wpAnyH_ready (rs:=[22]) (by kernel_rfl) (by simp) ?_
    refine AllReadyH.cons rfl (fun K hK=>?_) AllReadyH.nil
    refine step_append_lies _ (by rfl) _ _ _ (by rfl) 0 37 mi _ 9 88 Tryz.underlying59 mhi mz0 mz1 mz2 rfl (by omega) g2.nv m xs (by rfl) ((uH hN).alloc _).drew ⟨W0.heap.size,0,none⟩ 1 1 [.int .i64 1,.int .i64 (n:Int),.int .i64 px,.string k,.int .i64 S,.int .i64 tag,.int .i64 0,.int .i64 0,.string ⟨#[]⟩] (by rfl) (by rfl) (World.news_of_block (cs:=#[.int .i64 1,.int .i64 (n:Int),.int .i64 px,.string k,.int .i64 S,.int .i64 tag,.int .i64 0,.int .i64 0,.string ⟨#[]⟩]) (t:=37) (fr:=(0,0)) (heap_alloc_new W0 _)) (by simp [Value.oneCell']) (by omega) hm1 hm2 (by simp) (W0.heap.size+1) (by simp) ?_;intro gb cap w1 hown1 hgrow hat hlt;have q16:=far_cell hgrow c16 xne;have q16f:=far_froz hgrow c16 f16 xne
    refine hK.out _ _ (HS _ (tADG hgrow) (far_cell hgrow d0 (by assumption)) (far_cell hgrow d9 (by assumption))) (fun hHeld=>?_)
    clear hK K
    refine tkE (i:=23) (v:=?_) rfl ?hy ?_
    case hy=>intro w hSw;(try dsimp only at hSw);go_simp;(try with_reducible rfl)
    (try go_frame)
    refine tkE (i:=24) (v:=?_) rfl ?hy ?_
    case hy=>intro w hSw;(try dsimp only at hSw);go_simp;(try with_reducible rfl)
    (try go_frame)
    refine wpAnyH_ready (rs:=[25]) (by kernel_rfl) (by simp) ?_
    refine AllReadyH.cons rfl (fun K hK=>?_) AllReadyH.nil
    go_simp
    refine hK.out _ _ (HS _ (tADGS hgrow) ((World.cell?_setCell_other _ _ _ _ (by simp <;> omega)).trans (far_cell hgrow d0 (by assumption))) ((World.cell?_setCell_other _ _ _ _ (by simp <;> omega)).trans (far_cell hgrow d9 (by assumption)))) (fun hHeld=>?_)
    clear hK K
    refine wpAnyH_done (by kernel_rfl) ?_ _
    refine NoPanic.normal ?_
    go_split_ands
    clear HS
    go_wp2
    subst hm
    subst hxs
    obtain ⟨L,S3⟩:=((uH HR2).turn ((Turn.alloc nO W0 _).sD)).sent (m:=⟨1,n,px,k,S,tag,0,0,Tier.empty⟩) hown1 hgrow (hat.imp id (fun e=>by rw [e];simp)) hlt
    go_end0
    exact ⟨rfl,_,_,(by rw [uH HFIN];exact L),((uH HST).trans (Step.of_turn ((Turn.alloc nO W0 _).sD))).trans S3⟩
   ·go_simp
    refine hK.out _ _ (HS _ tAD (((Turn.refl nO _).sA.sD).cell d0 id) (((Turn.refl nO _).sA.sD).cell d9 id)) (fun hHeld=>?_)
    clear hK K
    refine wpAnyH_ready (rs:=[4]) (by kernel_rfl) (by simp) ?_
    refine AllReadyH.cons rfl (fun K hK=>?_) AllReadyH.nil
    go_simp
    refine hK.out _ _ (HS _ tAD (((Turn.refl nO _).sA.sD).cell d0 id) (((Turn.refl nO _).sA.sD).cell d9 id)) (fun hHeld=>?_)
    clear hK K
    refine wpAnyH_ready (rs:=[22]) (by kernel_rfl) (by simp) ?_
    refine AllReadyH.cons rfl (fun K hK=>?_) AllReadyH.nil
    refine step_append_lies _ (by rfl) _ _ _ (by rfl) 0 37 mi _ 9 88 Tryz.underlying59 mhi mz0 mz1 mz2 rfl (by omega) g2.nv m xs (by rfl) ((uH hN).alloc _).drew ⟨W0.heap.size,0,none⟩ 1 1 [.int .i64 1,.int .i64 (n:Int),.int .i64 px,.string k,.int .i64 S,.int .i64 tag,.int .i64 0,.int .i64 0,.string ⟨#[]⟩] (by rfl) (by rfl) (World.news_of_block (cs:=#[.int .i64 1,.int .i64 (n:Int),.int .i64 px,.string k,.int .i64 S,.int .i64 tag,.int .i64 0,.int .i64 0,.string ⟨#[]⟩]) (t:=37) (fr:=(0,0)) (heap_alloc_new W0 _)) (by simp [Value.oneCell']) (by omega) hm1 hm2 (by simp) (W0.heap.size+1) (by simp) ?_;intro gb cap w1 hown1 hgrow hat hlt;have q16:=far_cell hgrow c16 xne;have q16f:=far_froz hgrow c16 f16 xne
    refine hK.out _ _ (HS _ (tADG hgrow) (far_cell hgrow d0 (by assumption)) (far_cell hgrow d9 (by assumption))) (fun hHeld=>?_)
    clear hK K
    refine tkE (i:=23) (v:=?_) rfl ?hy ?_
    case hy=>intro w hSw;(try dsimp only at hSw);go_simp;(try with_reducible rfl)
    (try go_frame)
    refine tkE (i:=24) (v:=?_) rfl ?hy ?_
    case hy=>intro w hSw;(try dsimp only at hSw);go_simp;(try with_reducible rfl)
    (try go_frame)
    refine wpAnyH_ready (rs:=[25]) (by kernel_rfl) (by simp) ?_
    refine AllReadyH.cons rfl (fun K hK=>?_) AllReadyH.nil
    go_simp
    refine hK.out _ _ (HS _ (tADGS hgrow) ((World.cell?_setCell_other _ _ _ _ (by simp <;> omega)).trans (far_cell hgrow d0 (by assumption))) ((World.cell?_setCell_other _ _ _ _ (by simp <;> omega)).trans (far_cell hgrow d9 (by assumption)))) (fun hHeld=>?_)
    clear hK K
    refine wpAnyH_done (by kernel_rfl) ?_ _
    refine NoPanic.normal ?_
    go_split_ands
    clear HS
    go_wp2
    subst hm
    subst hxs
    obtain ⟨L,S3⟩:=((uH HR2).turn ((Turn.alloc nO W0 _).sD)).sent (m:=⟨1,n,px,k,S,tag,0,0,Tier.empty⟩) hown1 hgrow (hat.imp id (fun e=>by rw [e];simp)) hlt
    go_end0
    exact ⟨rfl,_,_,(by rw [uH HFIN];exact L),((uH HST).trans (Step.of_turn ((Turn.alloc nO W0 _).sD))).trans S3⟩
end
section
open Go.RowKit
open Tier (Mes Ans Conf St Kept Wtr Ftc Cac)
variable {own own':Own} {τ:Nat} {w w1 w2 w':World} {br:Nat} {g g':RGh} {t t':St}
theorem row_put {x e size:Nat} {b n c:Nat} {l:List (List Value)} (h:Row own τ x w e size (.slice (some ⟨b,0,none⟩) n c) l) (hs:∀ y∈l,y.length=size) {j i:Nat} (hj:j<l.length) (hi:i<size) (v:Value) :
    Row own τ x (w.setCell ⟨b,j*size+i,none⟩ v) e size (.slice (some ⟨b,0,none⟩) n c) (l.set j ((l.getD j []).set i v)):=by
 obtain ⟨⟨hl,hv⟩,hmn⟩:=h
 have hfl:(l.set j ((l.getD j []).set i v)).flatten=l.flatten.set (j*size+i) v:=by
   clear hl hv hmn
   induction l generalizing j with
   | nil=>simp at hj
   | cons y r ih =>
     have hy:y.length=size:=hs y (by simp)
     cases j with
     | zero =>
       show ((y.set i v) :: r).flatten=(y :: r).flatten.set (0*size+i) v
       rw [Nat.zero_mul,Nat.zero_add,List.flatten_cons,List.flatten_cons,List.set_append_left _ _ (by omega)]
     | succ j =>
       have hj':j<r.length:=by simpa using hj
       have:=ih (fun z hz=>hs z (by simp [hz])) hj'
       show (y :: (r.set j ((r.getD j []).set i v))).flatten=(y :: r).flatten.set ((j+1)*size+i) v
       rw [List.flatten_cons,List.flatten_cons,this,List.set_append_right _ _ (by rw [Nat.succ_mul];omega)]
       congr 2
       rw [Nat.succ_mul];omega
 rcases hv with ⟨hv,h0⟩|⟨gb,cap,cur,hv,hb,hg,h1,h2,h3,h4⟩
 ·cases hv
 ·cases hv
  refine ⟨⟨by rw [hfl,List.length_set,List.length_set];exact hl,Or.inr ⟨b,c,cur.setIfInBounds (j*size+i) v,by rw [List.length_set],hb,heap_set hg,by rw [List.length_set];exact h1,h2,by simpa using h3,?_⟩⟩,hmn⟩
  rw [hfl,List.length_set,← h4]
  simp [List.take_set]
theorem pair_ne {l:List Ftc} (ha:l.Pairwise fun a b=>a.serial≠b.serial) {i j:Nat} {f f':Ftc} (hi:l[i]?=some f) (hj:l[j]?=some f') (hs:f.serial=f'.serial):i=j:=by
  obtain ⟨hi1,hi2⟩:=List.getElem?_eq_some_iff.1 hi
  obtain ⟨hj1,hj2⟩:=List.getElem?_eq_some_iff.1 hj
  rcases Nat.lt_trichotomy i j with h|h|h
  ·exact absurd (by rw [hi2,hj2];exact hs) (List.pairwise_iff_getElem.1 ha i j hi1 hj1 h)
  ·exact h
  ·exact absurd (by rw [hi2,hj2];exact hs.symm) (List.pairwise_iff_getElem.1 ha j i hj1 hi1 h)
theorem set_map {lv:Int→Value} {S:Int} {v:Value} {w:Wtr} {l:List Ftc} {k:ByteArray} {j:Nat} {f:Ftc} (hf:l[j]?=some f) (hS:f.serial=S) (hk:f.key=k) (hu:∀ f'∈l,f'.key=k→f'=f) (ha:l.Pairwise fun a b=>a.serial≠b.serial) :
    (l.map (ftcL lv)).set j ((((l.map (ftcL lv)).getD j [])).set 3 v)=(l.map fun f=>if f.key=k then { f with l:=f.l ++ [w] } else f).map (ftcL (fun s=>if s=S then v else lv s)):=by
 have hj:j<l.length:=(List.getElem?_eq_some_iff.1 hf).1
 refine List.ext_getElem? (fun i=>?_)
 rw [List.getElem?_set,List.getElem?_map,List.getElem?_map,List.getElem?_map]
 by_cases e:j=i
 ·subst e
  rw [if_pos rfl,if_pos (by rw [List.length_map];exact hj),hf,List.getD_eq_getElem?_getD,List.getElem?_map,hf]
  show some ((ftcL lv f).set 3 v)=some (ftcL _ (if f.key=k then { f with l:=f.l ++ [w] } else f))
  rw [if_pos hk]
  unfold ftcL
  dsimp only
  rw [if_pos hS]
  rfl
 ·rw [if_neg e]
  cases hi:l[i]? with
  | none=>rfl
  | some f' =>
    have hne:f'.serial≠S:=fun h=>e (pair_ne ha hf hi (hS.trans h.symm))
    have hnk:f'.key≠k:=fun h=>by have:=hu f' (List.mem_of_getElem? hi) h;rw [this] at hne;exact hne hS
    show some (ftcL lv f')=some (ftcL _ (if f'.key=k then _ else f'))
    rw [if_neg hnk]
    unfold ftcL
    dsimp only
    rw [if_neg hne]
theorem ftcL_len (lv:Int→Value) (l:List Ftc):∀ y∈l.map (ftcL lv),y.length=4:=by intro y hy;obtain ⟨z,_,rfl⟩:=List.mem_map.1 hy;rfl
theorem RLies.joined (h:RLies own τ w br g t) (hfi:FFine t) {n:Nat} (hn:n<t.caches.length) {k:ByteArray} {x:Wtr} {j:Nat} {f:Ftc} (hf:(t.cac n).fts[j]?=some f) (hk:f.key=k) (hu:∀ f'∈(t.cac n).fts,f'.key=k→f'=f) {fb fc:Nat} (hfv:g.fv n= .slice (some ⟨fb,0,none⟩) (t.cac n).fts.length fc) {gb cap:Nat}
    (hO:w1.ownsRow 0 149 4 (.slice (some ⟨gb,0,none⟩) ((f.l.map wtrL).length+1) cap) ((f.l.map wtrL).length+1) ((f.l.map wtrL).flatten ++ wtrL x)) (hg:w.grownBy w1 (g.lv f.serial).ownBlock) (hat:(g.lv f.serial).ownBlock=some gb∨gb=w.heap.size) (hlt:gb<w1.heap.size) :
    ∃ own' g',RLies own' τ (w1.setCell ⟨fb,j*4+3,none⟩ (.slice (some ⟨gb,0,none⟩) ((f.l.map wtrL).length+1) cap)) br g' (t.joins n k x)∧Step τ own own' w (w1.setCell ⟨fb,j*4+3,none⟩ (.slice (some ⟨gb,0,none⟩) ((f.l.map wtrL).length+1) cap)):=by
 generalize hz:Value.slice (some ⟨gb,0,none⟩) ((f.l.map wtrL).length+1) cap=z at *
 have h6:=h.few
 have hfm:=List.mem_of_getElem? hf
 have hser:=hfi.ser n f hn hfm
 have hw:=h.waits n hn f hfm
 have hgb:own gb=some (τ,40+f.serial.toNat)∨w.heap.size≤gb:=hat.imp (fun h1=>hw.mine gb h1) (fun h1=>by omega)
 have hfo:own fb=some (τ,20+n):=(h.fts n hn).mine fb (by rw [hfv];rfl)
 have hfl:fb<w.heap.size:=(h.fts n hn).lt (by rw [hfv];rfl)
 have hsame:∀ q,q<w.heap.size→putO own gb (τ,40+f.serial.toNat) q=own q:=fun q hq=>putO_same hgb hq
 have hfg:fb≠gb:=by
   rintro e
   rcases hgb with h1|h1
   ·rw [← e] at h1;have:=lab_ne hfo h1;omega
   ·omega
 have T:Turn (fun q=>∃ y,(y=20+n∨y=40+f.serial.toNat)∧own q=some (τ,y)) w (w1.setCell ⟨fb,j*4+3,none⟩ z) :=
   ⟨hg.os,hg.tape,hg.output,by simpa using hg.size,fun q hq hm=>(hSO (fun e=>hm ⟨20+n,Or.inl rfl,by rw [e];exact hfo⟩)).trans (hg.block q hq (fun e=>hm ⟨_,Or.inr rfl,hw.mine q e.symm⟩))⟩
 have F:Fr (fun y=>y=20+n∨y=40+f.serial.toNat) own (putO own gb (τ,40+f.serial.toNat)) τ w (w1.setCell ⟨fb,j*4+3,none⟩ z):=fr_of T (fun q hq _ _ _=>hsame q hq)
 have hcac:∀ m,(t.joins n k x).cac m=if m=n then { t.cac n with fts:=(t.cac n).fts.map fun f=>if f.key=k then { f with l:=f.l ++ [x] } else f } else t.cac m:=fun m=>by
   unfold Tier.St.joins
   rw [Tier.cac_set]
   by_cases e:m=n
   ·rw [if_pos ⟨e,hn⟩,if_pos e]
   ·rw [if_neg (fun c=>e c.1),if_neg e]
 have hother:∀ m f',m<t.caches.length→f'∈(t.cac m).fts→m≠n→f'.serial≠f.serial:=fun m f' hm hf' hne e=>hne (hfi.apart m n f' f hm hn hf' hfm e).1
 refine ⟨putO own gb (τ,40+f.serial.toNat),{ g with lv:=fun s=>if s=f.serial then z else g.lv s },h.next _ F (fun q hq=>?_) (by omega) (Tier.length_set t n _) rfl rfl ?_ (by rw [hsame br h.lt];exact h.blockO) (Or.inl ⟨by omega,rfl,rfl⟩) ?_ (F.own h.cacsO (by omega) h.cacs.lt) (Or.inl ⟨by omega,rfl,rfl⟩) (Or.inl ⟨by omega,rfl,rfl⟩) (fun m hm=>Or.inl ⟨by omega,rfl,?_⟩) (fun m hm=>?_) (fun m hm f' hf'=>?_),step_of T (fun q hq=>Or.inl (hsame q hq))⟩
 ·have hq1:w1.heap.size≤q:=by simpa using hq
  unfold putO
  rw [if_neg (by omega)]
  exact h.top q (by have:=hg.size;omega)
 ·have:=F.block h.blockO (by omega) h.block
  rw [this]
  unfold refC
  rw [show (t.joins n k x).caches.length=t.caches.length from Tier.length_set t n _];rfl
 ·refine (h.cacs.heap (F.keep _ h.cacs.lt 4 (by omega) h.cacsO).1).like (Tier.length_set t n _) (fun m=>?_)
  rw [hcac]
  split
  ·next e=>rw [e]
  ·rfl
 ·rw [hcac]
  split
  ·next e=>rw [e]
  ·rfl
 ·by_cases e:m=n
  ·subst e
   refine Or.inr ?_
   rw [hcac,if_pos rfl]
   show Row _ _ _ _ _ _ (g.fv m) (((t.cac m).fts.map fun f=>if f.key=k then { f with l:=f.l ++ [x] } else f).map (ftcL (fun s=>if s=f.serial then z else g.lv s)))
   rw [← set_map hf rfl hk hu (hfi.once m hn)]
   have hr:Row (putO own gb (τ,40+f.serial.toNat)) τ (20+m) w1 176 4 (g.fv m) ((t.cac m).fts.map (ftcL g.lv)) :=
     (h.fts m hn).frame (fun q hq ho=>⟨hg.block q hq (fun e=>by have:=lab_ne ho (hw.mine q e.symm);omega),hsame q hq⟩)
   rw [hfv] at hr ⊢
   exact row_put hr (ftcL_len _ _) (by rw [List.length_map];exact (List.getElem?_eq_some_iff.1 hf).1) (by omega) z
  ·refine Or.inl ⟨by omega,rfl,?_⟩
   rw [hcac,if_neg e]
   exact fts_map (fun f' hf'=>hother m f' hm hf' e)
 ·have hcase:(f'.serial≠f.serial∧f'∈(t.cac m).fts)∨(m=n∧f'={ f with l:=f.l ++ [x] }):=by
    rw [hcac] at hf'
    by_cases e:m=n
    ·rw [if_pos e] at hf'
     obtain ⟨f0,hf0,rfl⟩:=List.mem_map.1 hf'
     by_cases ek:f0.key=k
     ·rw [if_pos ek,hu f0 hf0 ek];exact Or.inr ⟨e,rfl⟩
     ·rw [if_neg ek]
      refine Or.inl ⟨fun es=>?_,by rw [e];exact hf0⟩
      have:=(hfi.apart n n f0 f hn hn hf0 hfm es).2
      rw [this] at ek
      exact ek hk
    ·rw [if_neg e] at hf'
     exact Or.inl ⟨hother m f' hm hf' e,hf'⟩
  rcases hcase with ⟨hne,hf'⟩|⟨_,rfl⟩
  ·have:=hfi.ser m f' hm hf'
   refine Or.inl ⟨by omega,?_,f',hf',rfl,rfl⟩
   show (if f'.serial=f.serial then z else g.lv f'.serial)=_
   rw [if_neg hne]
  ·refine Or.inr ?_
   show Row _ _ _ _ _ _ (if f.serial=f.serial then z else _) ((f.l ++ [x]).map wtrL)
   rw [if_pos rfl,List.map_append]
   have hr:=row_grown (own:=own) (τ:=τ) (x:=40+f.serial.toNat) (w2:=w1.setCell ⟨fb,j*4+3,none⟩ z) (hz ▸ hO) (hSO (Ne.symm hfg))
   rw [hz] at hr
   exact hr
theorem RLies.ended (h:RLies own τ w br g t) (hfi:FFine t) {n:Nat} (hn:n<t.caches.length) {k:ByteArray} {f:Ftc} (hfm:f∈(t.cac n).fts) (hu:∀ f'∈(t.cac n).fts,f'.key=k ↔ f'=f) {z:Value} (G:Grow w w1 176 4 z (((t.cac n).fts.filter fun f=>decide (f.key≠k)).map (ftcL g.lv))) :
    ∃ own' g',RLies own' τ (w1.setCell ⟨g.bc,n*3+2,none⟩ z) br g' (t.over n k)∧Step τ own own' w (w1.setCell ⟨g.bc,n*3+2,none⟩ z)∧Row own' τ 7 (w1.setCell ⟨g.bc,n*3+2,none⟩ z) 149 4 (g.lv f.serial) (f.l.map wtrL):=by
 have h6:=h.few
 have T:=G.turn
 have hO:=G.row
 have hser:=hfi.ser n f hn hfm
 have hw:=h.waits n hn f hfm
 have hold:∀ q,q<w.heap.size→∀ x,x≠40+f.serial.toNat→own q=some (τ,x)→putV (moveO own (τ,40+f.serial.toNat) (τ,7)) z (τ,20+n) q=own q:=fun q hq x hx ho=>by
   rw [putV_old hO hq]
   unfold moveO
   rw [if_neg (fun c=>hx (lab_ne ho c))]
 have hmove:∀ q,q<w.heap.size→own q=some (τ,40+f.serial.toNat)→putV (moveO own (τ,40+f.serial.toNat) (τ,7)) z (τ,20+n) q=some (τ,7):=fun q hq ho=>by
   rw [putV_old hO hq]
   unfold moveO
   rw [if_pos ho]
 have hcac:∀ m,(t.over n k).cac m=if m=n then { t.cac n with fts:=(t.cac n).fts.filter fun f=>decide (f.key≠k) } else t.cac m:=fun m=>by
   unfold Tier.St.over
   rw [Tier.cac_set]
   by_cases e:m=n
   ·rw [if_pos ⟨e,hn⟩,if_pos e]
   ·rw [if_neg (fun c=>e c.1),if_neg e]
 have hbc:∀ q,z.ownBlock=some q→q≠g.bc:=fun q hq e=>by
   have:=(hO.lt q hq).1
   have:=h.cacs.lt
   omega
 have T2:Turn (fun q=>∃ x,(x=4∨x=40+f.serial.toNat)∧own q=some (τ,x)) w (w1.setCell ⟨g.bc,n*3+2,none⟩ z):=(T.mono (fun _ _ h=>h.elim)).sS (Or.inr ⟨4,Or.inl rfl,h.cacsO⟩)
 have F:Fr (fun x=>x=4∨x=20+n∨x=40+f.serial.toNat) own (putV (moveO own (τ,40+f.serial.toNat) (τ,7)) z (τ,20+n)) τ w (w1.setCell ⟨g.bc,n*3+2,none⟩ z) :=
   ⟨fun q hq x hx ho=>⟨T2.block q hq (fun ⟨y,hy,hyo⟩=>by have e:=lab_ne ho hyo;subst e;exact hx (hy.imp id (fun e=>Or.inr e))),hold q hq x (fun e=>hx (Or.inr (Or.inr e))) ho⟩⟩
 refine ⟨putV (moveO own (τ,40+f.serial.toNat) (τ,7)) z (τ,20+n),{ g with fv:=fun m=>if m=n then z else g.fv m },h.next _ F (fun q hq=>?_) (by omega) (Tier.length_set t n _) rfl rfl ?_ (by rw [hold br h.lt 1 (by omega) h.blockO];exact h.blockO) (Or.inl ⟨by omega,rfl,rfl⟩) ?_ (by show putV _ _ _ g.bc=_;rw [hold g.bc h.cacs.lt 4 (by omega) h.cacsO];exact h.cacsO) (Or.inl ⟨by omega,rfl,rfl⟩) (Or.inl ⟨by omega,rfl,rfl⟩) (fun m hm=>Or.inl ⟨by omega,rfl,?_⟩) (fun m hm=>?_) (fun m hm f' hf'=>?_),⟨T2.mono (fun q _ ⟨x,_,hx⟩=>⟨x,hx⟩),fun q hq=>?_⟩,?_⟩
 ·have hq1:w1.heap.size≤q:=by simpa using hq
  have h0:=h.top q (by have:=T.size;omega)
  unfold putV moveO
  rw [if_neg (fun e=>by have:=(hO.lt q e).2;omega),if_neg (by rw [h0];intro c;cases c)]
  exact h0
 ·have:=F.block h.blockO (by omega) h.block
  rw [this]
  unfold refC
  rw [show (t.over n k).caches.length=t.caches.length from Tier.length_set t n _];rfl
 ·refine (h.cacs.heap (T.block _ h.cacs.lt id)).put hn (by omega) z (Tier.length_set t n _) (fun m hm=>?_) (fun m hm=>?_) (fun m hm=>?_)
  ·rw [if_neg (by omega),hcac]
   split
   ·next e=>rw [e]
   ·rfl
  ·rw [if_neg (by omega)]
  ·show (if m=n∧2=2 then z else g.fv m)=(if m=n then z else g.fv m)
   by_cases e:m=n
   ·rw [if_pos ⟨e,rfl⟩,if_pos e]
   ·rw [if_neg (fun c=>e c.1),if_neg e]
 ·rw [hcac]
  split
  ·next e=>rw [e]
  ·rfl
 ·by_cases e:m=n
  ·subst e
   refine Or.inr ?_
   rw [hcac,if_pos rfl]
   show Row _ _ _ _ _ _ (if m=m then z else g.fv m) _
   rw [if_pos rfl]
   exact row_fresh hO (fun q hq=>hSO (hbc q hq))
  ·refine Or.inl ⟨by omega,?_,?_⟩
   ·show (if m=n then z else g.fv m)=_
    rw [if_neg e]
   ·rw [hcac,if_neg e]
 ·have hcase:f'∈(t.cac m).fts∧f'.serial≠f.serial:=by
    rw [hcac] at hf'
    by_cases e:m=n
    ·rw [if_pos e] at hf'
     obtain ⟨h1,h2⟩:=List.mem_filter.1 hf'
     have h2:f'.key≠k:=of_decide_eq_true h2
     refine ⟨by rw [e];exact h1,fun es=>h2 ?_⟩
     exact (hu f' h1).2 (hfi.apart n n f' f hn hn h1 hfm es).2
    ·rw [if_neg e] at hf'
     exact ⟨hf',fun es=>e (hfi.apart m n f' f hm hn hf' hfm es).1⟩
  have:=hfi.ser m f' hm hcase.1
  exact Or.inl ⟨by have:=hcase.2;omega,rfl,f',hcase.1,rfl,rfl⟩
 ·by_cases e:own q=some (τ,40+f.serial.toNat)
  ·exact Or.inr ⟨⟨_,e⟩,Or.inr ⟨7,hmove q hq e⟩⟩
  ·refine Or.inl ?_
   rw [putV_old hO hq]
   unfold moveO
   rw [if_neg e]
 ·have hlt7:=hw.row.lt
  obtain ⟨⟨hl',hv'⟩,hmn⟩:=hw
  refine ⟨⟨hl',?_⟩,fun q hq=>hmove q (hlt7 q hq).2 (hmn q hq)⟩
  rcases hv' with hv'|⟨gb',cap',cur,hv',hb,hgb',r⟩
  ·exact Or.inl hv'
  ·exact Or.inr ⟨gb',cap',cur,hv',hb,((hSO (fun e=>by
     have h1:=hmn gb' (by rw [hv'];rfl)
     rw [show gb'=g.bc from e] at h1
     have:=lab_ne h.cacsO h1
     omega)).trans (T.block gb' (hlt7 gb' (by rw [hv'];rfl)).2 id)).trans hgb',r⟩
theorem RLies.loosen (h:RLies own τ w br g t) {v:Value} {l:List (List Value)} (hv:Row own τ 7 w 149 4 v l):RLies (dropO own (τ,7)) τ w br g t∧Step τ own (dropO own (τ,7)) w w∧Loose (dropO own (τ,7)) w 149 4 v l:=by
  have h6:=h.few
  have hd:∀ q x,own q=some (τ,x)→x≠7→dropO own (τ,7) q=own q:=fun q x ho hx=>by
    unfold dropO
    rw [if_neg (fun c=>hx (lab_ne ho c))]
  have F:Fr (fun x=>x=7) own (dropO own (τ,7)) τ w w:=⟨fun q hq x hx ho=>⟨rfl,hd q x ho hx⟩⟩
  refine ⟨h.next _ F (fun q hq=>by unfold dropO;rw [h.top q hq];rfl) (by omega) rfl rfl rfl h.block (by rw [hd br 1 h.blockO (by omega)];exact h.blockO) (Or.inl ⟨by omega,rfl,rfl⟩) h.cacs (by rw [hd g.bc 4 h.cacsO (by omega)];exact h.cacsO) (Or.inl ⟨by omega,rfl,rfl⟩) (Or.inl ⟨by omega,rfl,rfl⟩) (fun n _=>Or.inl ⟨by omega,rfl,rfl⟩) (fun n _=>Or.inl ⟨by omega,rfl,rfl⟩) (fun n _ f hf=>Or.inl ⟨by omega,rfl,f,hf,rfl,rfl⟩),⟨Turn.refl _ _,fun q _=>?_⟩,⟨hv.row,fun q hq=>by unfold dropO;rw [if_pos (hv.mine q hq)]⟩⟩
  by_cases e:own q=some (τ,7)
  ·exact Or.inr ⟨⟨7,e⟩,Or.inl (by unfold dropO;rw [if_pos e])⟩
  ·exact Or.inl (by unfold dropO;rw [if_neg e])
end
section
open Go.RowKit
open Tier (Mes Ans Conf St Kept Wtr Ftc Cac)
attribute [local go_sem ↓] Go.wp_at_zero Go.wp_at_succ
variable {own own':Own} {τ:Nat} {w w1 w2 w':World} {br:Nat} {g g':RGh} {t t':St}
structure WFine (t:St) (n:Nat):Prop where
  cf:CFine t n
  ff:FFine t
  par:t.c.parents.length=t.caches.length
  ser:t.serial<1000000000000
  net:t.net.length<1000000000000
  ans:t.answers.length<1000000000000
  ftl:(t.cac n).fts.length<1000000
  wl:∀ f∈(t.cac n).fts,f.l.length<1000000
  uniq:∀ f f',f∈(t.cac n).fts→f'∈(t.cac n).fts→f.key=f'.key→f=f'
def tagOf (t:St) (n:Nat) (k:ByteArray):Int:=match t.entry n k with
  | some e=>e.ver
  | none=>-1
theorem wants_fresh {n:Nat} {k:ByteArray} {e:Kept} (x:Wtr) (he:t.entry n k=some e) (hf:t.fresh n k=true):t.wants n k x=t.toldBy n e x:=by
  unfold Tier.St.fresh at hf
  unfold Tier.St.wants
  rw [he] at hf ⊢
  dsimp only at hf ⊢
  rw [if_pos (of_decide_eq_true hf)]
theorem wants_stale {n:Nat} {k:ByteArray} (x:Wtr) (hf:t.fresh n k=false):t.wants n k x=if t.c.waiters≤t.waiting n then t.refused n k x else if (t.fetch n k).isSome then t.joins n k x else t.sends n k (tagOf t n k) [x]:=by
  unfold Tier.St.fresh at hf
  unfold Tier.St.wants tagOf
  cases he:t.entry n k with
  | none=>rfl
  | some e =>
    rw [he] at hf
    dsimp only at hf ⊢
    rw [if_neg (of_decide_eq_false hf)]
theorem rwants_fresh (h:RLies own τ w br g t) {n:Nat} (hf:WFine t n) (k:ByteArray) (x:Wtr) (hfr:t.fresh n k=true) :
    Calls Tryz.prog 77 #[.pointer (some ⟨br,0,none⟩),.int .i64 (n:Int),.string k,wtrV x] w fun r w'=>r= .returned (.tuple #[])∧RLeaves own τ w br (t.wants n k x) w':=by
 obtain ⟨e,he⟩:∃ e,t.entry n k=some e:=by
   unfold Tier.St.fresh at hfr
   cases he:t.entry n k with
   | none=>rw [he] at hfr;cases hfr
   | some e=>exact ⟨e,rfl⟩
 rw [wants_fresh x he hfr]
 have HH:=hide h
 have KF:=hide (fun (w':World) (T:Turn nO w w')=>rfresh_any ((uH HH).turn T) hf.cf.lt hf.cf.len hf.cf.fine k)
 rw [hfr] at KF
 have KT:=hide (fun (w':World) (T:Turn nO w w')=>rtoldBy_any ((uH HH).turn T) hf.cf hf.net hf.ans k e he x)
 generalize t.toldBy n e x=tb at *
 clear h hf hfr he
 obtain ⟨node,cid,serial,tag⟩:=x
 unfold wtrV wtrL at *
 dsimp only at *
 go_enter Tryz.func77,Tryz.ntmps77
 go_wp2_with fail
 generalize hW:World.alloc _ _=W0
 have T0:Turn nO w W0:=by rw [← hW];exact (Turn.alloc _ _ _)
 have hsz:W0.heap.size=w.heap.size+1:=by rw [← hW];simp
 have x0:∃ ty,W0.heap[w.heap.size]?=some (.cells #[.int .i64 node,.int .i64 cid,.int .i64 serial,.int .i64 tag] ty (0,0)):=by rw [← hW];exact ⟨_,new1_0 _ _⟩
 obtain ⟨x0_0,x0_1,x0_2,x0_3⟩:=eC4 x0
 clear hW
 refine (uH KF W0 T0).mono ?_
 rintro e w1 ⟨rfl,T1⟩
 have x0_0:=T1.cell x0_0 id
 have x0_1:=T1.cell x0_1 id
 have x0_2:=T1.cell x0_2 id
 have x0_3:=T1.cell x0_3 id
 have T01:=T0.sT T1 (fun _ _ h=>h)
 have HT01:=hide T01
 have KT2:=hide (uH KT w1 T01)
 clear T1 KF x0 T01 KT
 go_wp2_with fail
 refine (uH KT2).mono ?_
 rintro e w2 ⟨rfl,R2⟩
 have HR:=hide (R2.trans (Step.of_turn (uH HT01)))
 clear R2 KT2
 go_wp2
 exact bodyPost_ret (v:= .tuple #[]) (by simp [results,Tryz.results77,go_sem]) rfl ⟨rfl,uH HR⟩
theorem rwants_full (h:RLies own τ w br g t) {n:Nat} (hf:WFine t n) (k:ByteArray) (x:Wtr) (hfr:t.fresh n k=false) (hw:t.c.waiters≤t.waiting n) :
    Calls Tryz.prog 77 #[.pointer (some ⟨br,0,none⟩),.int .i64 (n:Int),.string k,wtrV x] w fun r w'=>r= .returned (.tuple #[])∧RLeaves own τ w br (t.wants n k x) w':=by
 rw [wants_stale x hfr,if_pos hw]
 have HH:=hide h
 have KF:=hide (fun (w':World) (T:Turn nO w w')=>rfresh_any ((uH HH).turn T) hf.cf.lt hf.cf.len hf.cf.fine k)
 rw [hfr] at KF
 have KW:=hide (fun (w':World) (T:Turn nO w w')=>rwaiting_any ((uH HH).turn T) hf.cf.lt (Nat.le_of_lt hf.ftl) (fun f hm=>Nat.le_of_lt (hf.wl f hm)))
 have KT:=hide (fun (w':World) (T:Turn nO w w')=>rrefused_any ((uH HH).turn T) hf.net hf.ans n k x)
 have d4:w.cell? ⟨br,4,none⟩=some (.int .i64 t.c.waiters):=cOf h.block 4
 generalize t.refused n k x=tb at *
 generalize t.waiting n=wt at *
 generalize t.c.waiters=mx at *
 clear h hf hfr
 obtain ⟨node,cid,serial,tag⟩:=x
 unfold wtrV wtrL at *
 dsimp only at *
 go_enter Tryz.func77,Tryz.ntmps77
 go_wp2_with fail
 generalize hW:World.alloc _ _=W0
 have T0:Turn nO w W0:=by rw [← hW];exact (Turn.alloc _ _ _)
 have hsz:W0.heap.size=w.heap.size+1:=by rw [← hW];simp
 have x0:∃ ty,W0.heap[w.heap.size]?=some (.cells #[.int .i64 node,.int .i64 cid,.int .i64 serial,.int .i64 tag] ty (0,0)):=by rw [← hW];exact ⟨_,new1_0 _ _⟩
 obtain ⟨x0_0,x0_1,x0_2,x0_3⟩:=eC4 x0
 clear hW
 refine (uH KF W0 T0).mono ?_
 rintro e w1 ⟨rfl,T1⟩
 have x0_0:=T1.cell x0_0 id
 have x0_1:=T1.cell x0_1 id
 have x0_2:=T1.cell x0_2 id
 have x0_3:=T1.cell x0_3 id
 have T01:=T0.sT T1 (fun _ _ h=>h)
 have d4:=T01.cell d4 id
 have HT01:=hide T01
 have KT2:=hide (uH KT w1 T01)
 have KW2:=hide (uH KW w1 T01)
 clear T1 KF x0 T01 KT KW
 go_wp2_with fail
 refine (uH KW2).mono ?_
 rintro e w2 ⟨rfl,rfl⟩
 go_wp2_with fail
 refine (uH KT2).mono ?_
 rintro e w2 ⟨rfl,R2⟩
 have HR:=hide (R2.trans (Step.of_turn (uH HT01)))
 clear R2 KT2
 go_wp2
 exact bodyPost_ret (v:= .tuple #[]) (by simp [results,Tryz.results77,go_sem]) rfl ⟨rfl,uH HR⟩
theorem rwants_joins (h:RLies own τ w br g t) {n:Nat} (hf:WFine t n) (k:ByteArray) (x:Wtr) (hfr:t.fresh n k=false) (hw:¬ t.c.waiters≤t.waiting n) (hfe:(t.fetch n k).isSome=true) :
    Calls Tryz.prog 77 #[.pointer (some ⟨br,0,none⟩),.int .i64 (n:Int),.string k,wtrV x] w fun r w'=>r= .returned (.tuple #[])∧RLeaves own τ w br (t.wants n k x) w':=by
 rw [wants_stale x hfr,if_neg hw,if_pos hfe]
 obtain ⟨wi,whi,wz0,wz1,wz2⟩:=info_parts infoWaiter
 obtain ⟨i,f,h1,h2,h3,h4⟩:∃ (i:Nat) (f:Ftc),idx Ftc.key k (t.cac n).fts=(i:Int)∧(t.cac n).fts[i]?=some f∧f.key=k∧(t.cac n).fts.find? (fun e=>decide (e.key=k))=some f:=by
   rcases idx_spec Ftc.key k (t.cac n).fts with h|⟨_,h2⟩
   ·exact h
   ·unfold Tier.St.fetch at hfe;rw [h2] at hfe;cases hfe
 have hfm:=List.mem_of_getElem? h2
 have HH:=hide h
 have KF:=hide (fun (w':World) (T:Turn nO w w')=>rfresh_any ((uH HH).turn T) hf.cf.lt hf.cf.len hf.cf.fine k)
 rw [hfr] at KF
 have KW:=hide (fun (w':World) (T:Turn nO w w')=>rwaiting_any ((uH HH).turn T) hf.cf.lt (Nat.le_of_lt hf.ftl) (fun f hm=>Nat.le_of_lt (hf.wl f hm)))
 have KI:=hide (fun (w':World) (T:Turn nO w w')=>rfetch_any ((uH HH).turn T) hf.cf.lt (Nat.le_of_lt hf.ftl) k)
 rw [h1] at KI
 have d4:w.cell? ⟨br,4,none⟩=some (.int .i64 t.c.waiters):=cOf h.block 4
 have d6:w.cell? ⟨br,6,none⟩=some (.slice (some ⟨g.bc,0,none⟩) t.caches.length t.caches.length):=cOf h.block 6
 obtain ⟨_,_,k2,_⟩:=h.cacs.at_ hf.cf.lt
 obtain ⟨fb,fc,hfv,hfo,_,hfc,hff⟩:=rowAt (h.fts n hf.cf.lt) (fun _=>rfl) h2
 have k2':=k2
 rw [hfv] at k2'
 have c16:w.cell? ⟨fb,i*4+3,none⟩=some (g.lv f.serial):=hfc 3 (by omega)
 have f16:w.frozen? ⟨fb,i*4+3,none⟩=false:=hff _
 have hN:=hide (h.waits n hf.cf.lt f hfm).row
 have HMN:=hide (h.waits n hf.cf.lt f hfm).mine
 have hlen':(f.l.map wtrL).length<1000000:=by rw [List.length_map];exact hf.wl f hfm
 have HJ:Hid (∀ (W:World),RLies own τ W br g t→∀ (w1:World) (gb cap:Nat),w1.ownsRow 0 149 4 (.slice (some ⟨gb,0,none⟩) ((f.l.map wtrL).length+1) cap) ((f.l.map wtrL).length+1) ((f.l.map wtrL).flatten ++ wtrL x)→W.grownBy w1 (g.lv f.serial).ownBlock→((g.lv f.serial).ownBlock=some gb∨gb=W.heap.size)→gb<w1.heap.size →
     RLeaves own τ W br (t.joins n k x) (w1.setCell ⟨fb,i*4+3,none⟩ (.slice (some ⟨gb,0,none⟩) ((f.l.map wtrL).length+1) cap))):=fun W hW w1 gb cap a b c d=>by
  obtain ⟨o,g',R,S⟩:=hW.joined hf.ff hf.cf.lt h2 h3 (fun f' hf' hk=>hf.uniq f' f hf' hfm (hk.trans h3.symm)) hfv a b c d
  exact ⟨o,g',R,S⟩
 have HTOP:=hide h.top
 have hbr:=h.lt
 have n0:(0:Int)≤(n:Int):=by omega
 have n1:(n:Int)<(t.caches.length:Int):=by have:=hf.cf.lt;omega
 have j0:(0:Int)≤(i:Int):=by omega
 have j1:(i:Int)<((t.cac n).fts.length:Int):=by have:=(List.getElem?_eq_some_iff.1 h2).1;omega
 have hser:=hf.ff.ser n f hf.cf.lt hfm
 have hsp:Hid (0<f.serial):=hser.1
 have hfl:fb<w.heap.size:=cell_lt c16
 have HN6:Hid (n<6):=Nat.lt_of_lt_of_le hf.cf.lt h.few
 generalize t.joins n k x=tb at *
 generalize t.waiting n=wt at *
 generalize t.c.waiters=mx at *
 generalize t.caches.length=m at *
 generalize (t.cac n).fts.length=fl at *
 generalize hgl:g.lv f.serial=gl at *
 have hw:(wt:Int)<mx:=by omega
 clear h hf hfr hfe h1 h2 h3 h4 hfm k2 hfv hfc hff hgl hser
 obtain ⟨node,cid,serial,tag⟩:=x
 unfold wtrV
 rw [show wtrL ⟨node,cid,serial,tag⟩=[.int .i64 node,.int .i64 cid,.int .i64 serial,.int .i64 tag] from rfl]
 rw [show wtrL ⟨node,cid,serial,tag⟩=[.int .i64 node,.int .i64 cid,.int .i64 serial,.int .i64 tag] from rfl] at HJ
 go_enter Tryz.func77,Tryz.ntmps77
 go_wp2_with fail
 generalize hW:World.alloc _ _=WA
 have TA:Turn nO w WA:=by rw [← hW];exact Turn.alloc _ _ _
 have x0_0:WA.cell? ⟨w.heap.size,0,none⟩=some (.int .i64 node):=by rw [← hW];exact cOf (new1_0 w _) 0
 have x0_1:WA.cell? ⟨w.heap.size,1,none⟩=some (.int .i64 cid):=by rw [← hW];exact cOf (new1_0 w _) 1
 have x0_2:WA.cell? ⟨w.heap.size,2,none⟩=some (.int .i64 serial):=by rw [← hW];exact cOf (new1_0 w _) 2
 have x0_3:WA.cell? ⟨w.heap.size,3,none⟩=some (.int .i64 tag):=by rw [← hW];exact cOf (new1_0 w _) 3
 clear hW
 refine (uH KF WA TA).mono ?_
 rintro e W0 ⟨rfl,T1⟩
 have x0_0:=T1.cell x0_0 id
 have x0_1:=T1.cell x0_1 id
 have x0_2:=T1.cell x0_2 id
 have x0_3:=T1.cell x0_3 id
 have T01:=TA.sT T1 (fun _ _ h=>h)
 have d4:=T01.cell d4 id
 have d6:=T01.cell d6 id
 have k2:=T01.cell k2' id
 have c16w:=c16
 have c16:=T01.cell c16w id
 have f16:=T01.froz c16w id f16
 have HT01:=hide T01
 have KW2:=hide (uH KW W0 T01)
 have KI2:=hide (uH KI W0 T01)
 have hN:Hid (W0.ownsRow 0 149 4 gl _ _):=owns_turnB (uH hN) T01
 have hbx:br<W0.heap.size:=Nat.lt_of_lt_of_le hbr T01.size
 have hfx:fb<W0.heap.size:=Nat.lt_of_lt_of_le hfl T01.size
 have HR0:=hide ((uH HH).turn T01)
 clear T1 KF T01 KW KI k2'
 go_wp2_with fail
 refine (uH KW2).mono ?_
 rintro e w2 ⟨rfl,rfl⟩
 clear KW2
 go_wp2_with fail
 refine (uH KI2).mono ?_
 rintro e w2 ⟨rfl,rfl⟩
 clear KI2
 have xne:some fb≠gl.ownBlock:=fun e=>by have:=lab_ne hfo (uH HMN _ e.symm);have:=uH HN6;have:=uH hsp;omega
 have nb0:¬ (w.heap.size=fb∨some w.heap.size=gl.ownBlock):=fun h=>h.elim (fun e=>by omega) (fun e=>by have:=uH HMN _ e.symm;rw [uH HTOP _ (Nat.le_refl _)] at this;cases this)
 have c16a:∀ o,(w2.alloc o).cell? ⟨fb,i*4+3,none⟩=some gl:=fun o=>(Turn.alloc nO w2 o).cell c16 id
 have hne0:fb≠w2.heap.size:=by omega
 generalize hxs:(f.l.map wtrL).flatten=xs at *
 generalize hm:(f.l.map wtrL).length=lm at *
 have hm1:lm+1≤maxLen:=by unfold maxLen;omega
 have hm2:(lm+1)*32≤140737488355328:=by omega
 rename World=>W0
 go_wp2
 skip
 have HS:=fun w' (T:Turn (fun q=>q=fb∨some q=gl.ownBlock) W0 w')=>And.intro T (And.intro (T.cell x0_0 (nb0)) (And.intro (T.cell x0_1 (nb0)) (And.intro (T.cell x0_2 (nb0)) (T.cell x0_3 (nb0)))))
 refine wp_region_noPanic ?_
 refine wp_region_held_drew (S:=fun w'=>Turn (fun q=>q=fb∨some q=gl.ownBlock) W0 w'∧w'.cell? ⟨w.heap.size,0,none⟩=some (.int .i64 node)∧w'.cell? ⟨w.heap.size,1,none⟩=some (.int .i64 cid)∧w'.cell? ⟨w.heap.size,2,none⟩=some (.int .i64 serial)∧w'.cell? ⟨w.heap.size,3,none⟩=some (.int .i64 tag)) (by kernel_rfl) (HS _ ((Turn.refl _ _).sD)) (fun hHeld=>?_)
 refine tkE (i:=0) (v:=?_) rfl ?hy ?_
 case hy=>intro w hSw;(try dsimp only at hSw);go_simp;(try with_reducible rfl)
 (try go_frame)
 refine tkE (i:=1) (v:=?_) rfl ?hy ?_
 case hy=>intro w hSw;(try dsimp only at hSw);go_simp;(try with_reducible rfl)
 (try go_frame)
 refine tkE (i:=2) (v:=?_) rfl ?hy ?_
 case hy=>intro w hSw;(try dsimp only at hSw);go_simp;(try with_reducible rfl)
 (try go_frame)
 refine tkE (i:=3) (v:=?_) rfl ?hy ?_
 case hy=>intro w hSw;(try dsimp only at hSw);go_simp;(try with_reducible rfl)
 (try go_frame)
 refine tkE (i:=5) (v:=?_) rfl ?hy ?_
 case hy=>intro w hSw;(try dsimp only at hSw);go_simp;(try with_reducible rfl)
 (try go_frame)
 refine wpAnyH_ready (rs:=[4,6]) (by kernel_rfl) (by simp) ?_
 refine AllReadyH.cons rfl (fun K hK=>?_) (AllReadyH.cons rfl (fun K hK=>?_) AllReadyH.nil)
 ·go_simp
  refine hK.out _ _ (HS _ ((Turn.refl _ _).sD)) (fun hHeld=>?_)
  clear hK K
  refine wpAnyH_ready (rs:=[6]) (by kernel_rfl) (by simp) ?_
  refine AllReadyH.cons rfl (fun K hK=>?_) AllReadyH.nil
  go_simp
  refine hK.out _ _ (HS _ tAD) (fun hHeld=>?_)
  clear hK K
  refine wpAnyH_ready (rs:=[7]) (by kernel_rfl) (by simp) ?_
  refine AllReadyH.cons rfl (fun K hK=>?_) AllReadyH.nil
  refine step_append_lies _ (by rfl) _ _ _ (by rfl) 0 149 wi _ 4 32 Tryz.underlying157 whi wz0 wz1 wz2 rfl (by omega) gl lm xs (by rfl) ((uH hN).alloc _).drew ⟨W0.heap.size,0,none⟩ 1 1 [.int .i64 node,.int .i64 cid,.int .i64 serial,.int .i64 tag] (by rfl) (by rfl) (World.news_of_block (cs:=#[.int .i64 node,.int .i64 cid,.int .i64 serial,.int .i64 tag]) (t:=149) (fr:=(0,0)) (heap_alloc_new W0 _)) (by simp [Value.oneCell']) (by omega) hm1 hm2 (by simp) (W0.heap.size+1) (by simp) ?_;intro gb cap w1 hown1 hgrow hat hlt;have q16:=far_cell hgrow c16 xne;have q16f:=far_froz hgrow c16 f16 xne
  refine hK.out _ _ (HS _ (tADG hgrow)) (fun hHeld=>?_)
  clear hK K
  refine tkE (i:=8) (v:=?_) rfl ?hy ?_
  case hy=>intro w hSw;(try dsimp only at hSw);go_simp;(try with_reducible rfl)
  (try go_frame)
  refine tkE (i:=9) (v:=?_) rfl ?hy ?_
  case hy=>intro w hSw;(try dsimp only at hSw);go_simp;(try with_reducible rfl)
  (try go_frame)
  refine wpAnyH_ready (rs:=[10]) (by kernel_rfl) (by simp) ?_
  refine AllReadyH.cons rfl (fun K hK=>?_) AllReadyH.nil
  go_simp
  refine hK.out _ _ (HS _ (tADGS hgrow)) (fun hHeld=>?_)
  clear hK K
  refine wpAnyH_done (by kernel_rfl) ?_ _
  refine NoPanic.normal ?_
  go_split_ands
  clear HS
  have HR:=hide ((uH HJ _ ((uH HR0).turn ((Turn.alloc nO W0 _).sD)) w1 gb cap hown1 hgrow (hat.imp id (fun e=>by rw [e];simp)) hlt).trans ((Step.of_turn (uH HT01)).trans (Step.of_turn ((Turn.alloc nO W0 _).sD))))
  clear hown1 hgrow
  go_wp2
  exact bodyPost_ret (v:= .tuple #[]) (by simp [results,Tryz.results77,go_sem]) rfl ⟨rfl,uH HR⟩
 ·go_simp
  refine hK.out _ _ (HS _ tAD) (fun hHeld=>?_)
  clear hK K
  refine wpAnyH_ready (rs:=[4]) (by kernel_rfl) (by simp) ?_
  refine AllReadyH.cons rfl (fun K hK=>?_) AllReadyH.nil
  go_simp
  refine hK.out _ _ (HS _ tAD) (fun hHeld=>?_)
  clear hK K
  refine wpAnyH_ready (rs:=[7]) (by kernel_rfl) (by simp) ?_
  refine AllReadyH.cons rfl (fun K hK=>?_) AllReadyH.nil
  refine step_append_lies _ (by rfl) _ _ _ (by rfl) 0 149 wi _ 4 32 Tryz.underlying157 whi wz0 wz1 wz2 rfl (by omega) gl lm xs (by rfl) ((uH hN).alloc _).drew ⟨W0.heap.size,0,none⟩ 1 1 [.int .i64 node,.int .i64 cid,.int .i64 serial,.int .i64 tag] (by rfl) (by rfl) (World.news_of_block (cs:=#[.int .i64 node,.int .i64 cid,.int .i64 serial,.int .i64 tag]) (t:=149) (fr:=(0,0)) (heap_alloc_new W0 _)) (by simp [Value.oneCell']) (by omega) hm1 hm2 (by simp) (W0.heap.size+1) (by simp) ?_;intro gb cap w1 hown1 hgrow hat hlt;have q16:=far_cell hgrow c16 xne;have q16f:=far_froz hgrow c16 f16 xne
  refine hK.out _ _ (HS _ (tADG hgrow)) (fun hHeld=>?_)
  clear hK K
  refine tkE (i:=8) (v:=?_) rfl ?hy ?_
  case hy=>intro w hSw;(try dsimp only at hSw);go_simp;(try with_reducible rfl)
  (try go_frame)
  refine tkE (i:=9) (v:=?_) rfl ?hy ?_
  case hy=>intro w hSw;(try dsimp only at hSw);go_simp;(try with_reducible rfl)
  (try go_frame)
  refine wpAnyH_ready (rs:=[10]) (by kernel_rfl) (by simp) ?_
  refine AllReadyH.cons rfl (fun K hK=>?_) AllReadyH.nil
  go_simp
  refine hK.out _ _ (HS _ (tADGS hgrow)) (fun hHeld=>?_)
  clear hK K
  refine wpAnyH_done (by kernel_rfl) ?_ _
  refine NoPanic.normal ?_
  go_split_ands
  clear HS
  have HR:=hide ((uH HJ _ ((uH HR0).turn ((Turn.alloc nO W0 _).sD)) w1 gb cap hown1 hgrow (hat.imp id (fun e=>by rw [e];simp)) hlt).trans ((Step.of_turn (uH HT01)).trans (Step.of_turn ((Turn.alloc nO W0 _).sD))))
  clear hown1 hgrow
  go_wp2
  exact bodyPost_ret (v:= .tuple #[]) (by simp [results,Tryz.results77,go_sem]) rfl ⟨rfl,uH HR⟩
theorem RLies.fresh7 (h:RLies own τ w br g t) (x:Wtr):∃ own',RLies own' τ (w.alloc (.cells (wtrL x).toArray 149 (0,0))) br g t∧Step τ own own' w (w.alloc (.cells (wtrL x).toArray 149 (0,0)))∧Row own' τ 7 (w.alloc (.cells (wtrL x).toArray 149 (0,0))) 149 4 (.slice (some ⟨w.heap.size,0,none⟩) 1 1) ([x].map wtrL):=by
  have G:=Grow.one (w:=w) (e:=149) (size:=4) (r:=wtrL x) rfl
  have hold:∀ k,k<w.heap.size→putV own (.slice (some ⟨w.heap.size,0,none⟩) 1 1) (τ,7) k=own k:=fun k hk=>putV_old G.row hk
  refine ⟨putV own (.slice (some ⟨w.heap.size,0,none⟩) 1 1) (τ,7),h.frame (fun k hk _=>⟨G.turn.block k hk id,hold k hk⟩) (putV_top G.row rfl h.top G.turn.size),⟨G.turn.mono (fun _ _ h=>h.elim),fun k hk=>Or.inl (hold k hk)⟩,?_⟩
  exact row_fresh G.row (fun _ _=>rfl)
theorem rwants_sends (h:RLies own τ w br g t) {n:Nat} (hf:WFine t n) (k:ByteArray) (x:Wtr) (hfr:t.fresh n k=false) (hw:¬ t.c.waiters≤t.waiting n) (hfe:(t.fetch n k).isSome=false) :
    Calls Tryz.prog 77 #[.pointer (some ⟨br,0,none⟩),.int .i64 (n:Int),.string k,wtrV x] w fun r w'=>r= .returned (.tuple #[])∧RLeaves own τ w br (t.wants n k x) w':=by
 rw [wants_stale x hfr,if_neg hw,if_neg (by rw [hfe];decide)]
 have h1:idx Ftc.key k (t.cac n).fts=-1:=by
   rcases idx_spec Ftc.key k (t.cac n).fts with ⟨_,f,_,_,_,h4⟩|⟨h1,_⟩
   ·unfold Tier.St.fetch at hfe;rw [h4] at hfe;cases hfe
   ·exact h1
 have HH:=hide h
 have KF:=hide (fun (w':World) (T:Turn nO w w')=>rfresh_any ((uH HH).turn T) hf.cf.lt hf.cf.len hf.cf.fine k)
 rw [hfr] at KF
 have KW:=hide (fun (w':World) (T:Turn nO w w')=>rwaiting_any ((uH HH).turn T) hf.cf.lt (Nat.le_of_lt hf.ftl) (fun f hm=>Nat.le_of_lt (hf.wl f hm)))
 have KI:=hide (fun (w':World) (T:Turn nO w w')=>rfetch_any ((uH HH).turn T) hf.cf.lt (Nat.le_of_lt hf.ftl) k)
 rw [h1] at KI
 have KE:=hide (fun (w':World) (T:Turn nO w w')=>rentry_any ((uH HH).turn T) hf.cf.lt hf.cf.len k)
 have KS:Hid (∀ w',Turn nO w w'→Calls Tryz.prog 110 #[.pointer (some ⟨br,0,none⟩),.int .i64 (n:Int),.string k,.int .i64 (tagOf t n k),.slice (some ⟨w'.heap.size,0,none⟩) 1 1] (w'.alloc (.cells (wtrL x).toArray 149 (0,0))) fun r w''=>r= .returned (.tuple #[])∧RLeaves own τ w br (t.sends n k (tagOf t n k) [x]) w''):=fun w' T=>by
   obtain ⟨own1,R1,S1,V1⟩:=((uH HH).turn T).fresh7 x
   refine (rsends_any R1 hf.ff hf.cf.lt hf.par hf.ser hf.net hf.ftl k (tagOf t n k) [x] _ V1).mono ?_
   rintro r w'' ⟨rfl,R⟩
   exact ⟨rfl,R.trans ((Step.of_turn T).trans S1)⟩
 have d4:w.cell? ⟨br,4,none⟩=some (.int .i64 t.c.waiters):=cOf h.block 4
 have d6:w.cell? ⟨br,6,none⟩=some (.slice (some ⟨g.bc,0,none⟩) t.caches.length t.caches.length):=cOf h.block 6
 obtain ⟨_,k1,_,_⟩:=h.cacs.at_ hf.cf.lt
 have hbr:=h.lt
 have n0:(0:Int)≤(n:Int):=by omega
 have n1:(n:Int)<(t.caches.length:Int):=by have:=hf.cf.lt;omega
 generalize t.waiting n=wt at *
 generalize t.c.waiters=mx at *
 generalize t.caches.length=m at *
 have hw:(wt:Int)<mx:=by omega
 have HTAG:Hid ((idx Kept.key k (t.cac n).ents=-1∧tagOf t n k=-1)∨∃ (i:Nat) (eb ec:Nat),idx Kept.key k (t.cac n).ents=(i:Int)∧i<(t.cac n).ents.length∧g.ev n= .slice (some ⟨eb,0,none⟩) (t.cac n).ents.length ec∧w.cell? ⟨eb,i*6+1,none⟩=some (.int .i64 (tagOf t n k))):=by
   rcases idx_spec Kept.key k (t.cac n).ents with ⟨i,e,h1,h2,h3,h4⟩|⟨h1,h2⟩
   ·obtain ⟨eb,ec,hv,_,_,hc,_⟩:=rowAt (h.ents n hf.cf.lt) (fun _=>rfl) h2
    have:tagOf t n k=e.ver:=by unfold tagOf Tier.St.entry;rw [h4]
    exact Or.inr ⟨i,eb,ec,h1,(List.getElem?_eq_some_iff.1 h2).1,hv,by rw [this];exact hc 1 (by omega)⟩
   ·exact Or.inl ⟨h1,by unfold tagOf Tier.St.entry;rw [h2]⟩
 generalize tagOf t n k=tg at *
 generalize t.sends n k tg [x]=ts at *
 clear h hf hfr hfe h1
 obtain ⟨node,cid,serial,tag⟩:=x
 unfold wtrV
 rw [show wtrL ⟨node,cid,serial,tag⟩=[.int .i64 node,.int .i64 cid,.int .i64 serial,.int .i64 tag] from rfl] at KS ⊢
 go_enter Tryz.func77,Tryz.ntmps77
 go_wp2_with fail
 generalize hW:World.alloc _ _=WA
 have TA:Turn nO w WA:=by rw [← hW];exact Turn.alloc _ _ _
 have x0_0:WA.cell? ⟨w.heap.size,0,none⟩=some (.int .i64 node):=by rw [← hW];exact cOf (new1_0 w _) 0
 have x0_1:WA.cell? ⟨w.heap.size,1,none⟩=some (.int .i64 cid):=by rw [← hW];exact cOf (new1_0 w _) 1
 have x0_2:WA.cell? ⟨w.heap.size,2,none⟩=some (.int .i64 serial):=by rw [← hW];exact cOf (new1_0 w _) 2
 have x0_3:WA.cell? ⟨w.heap.size,3,none⟩=some (.int .i64 tag):=by rw [← hW];exact cOf (new1_0 w _) 3
 clear hW
 refine (uH KF WA TA).mono ?_
 rintro e W0 ⟨rfl,T1⟩
 have x0_0:=T1.cell x0_0 id
 have x0_1:=T1.cell x0_1 id
 have x0_2:=T1.cell x0_2 id
 have x0_3:=T1.cell x0_3 id
 have T01:=TA.sT T1 (fun _ _ h=>h)
 have d4:=T01.cell d4 id
 have d6:=T01.cell d6 id
 have k1:=T01.cell k1 id
 have HT01:=hide T01
 have KW2:=hide (uH KW W0 T01)
 have KI2:=hide (uH KI W0 T01)
 have KE2:=hide (uH KE W0 T01)
 have KS2:=hide (uH KS W0 T01)
 have hbx:br<W0.heap.size:=Nat.lt_of_lt_of_le hbr T01.size
 clear T1 KF T01 KW KI KE KS
 go_wp2_with fail
 refine (uH KW2).mono ?_
 rintro e w2 ⟨rfl,rfl⟩
 clear KW2
 go_wp2_with fail
 refine (uH KI2).mono ?_
 rintro e w2 ⟨rfl,rfl⟩
 clear KI2
 go_wp2_with fail
 refine (uH KE2).mono ?_
 rintro e w2 ⟨rfl,rfl⟩
 clear KE2
 rcases uH HTAG with ⟨e1,e2⟩|⟨i,eb,ec,e1,e2,e3,e4⟩
 ·rw [e1]
  rw [e2] at KS2
  clear e1 e2 HTAG
  go_wp2_with fail
  refine (uH KS2).mono ?_
  rintro e w3 ⟨rfl,R3⟩
  have HR:=hide R3
  clear R3 KS2
  go_wp2
  go_end0
  exact ⟨rfl,uH HR⟩
 ·rw [e1]
  rw [e3] at k1
  have e4:=(uH HT01).cell e4 id
  have j0:(0:Int)≤(i:Int):=by omega
  have j1:(i:Int)<((t.cac n).ents.length:Int):=by omega
  generalize (t.cac n).ents.length=el at *
  clear e1 e2 e3 HTAG
  go_wp2_with fail
  refine (uH KS2).mono ?_
  rintro e w3 ⟨rfl,R3⟩
  have HR:=hide R3
  clear R3 KS2
  go_wp2
  go_end0
  exact ⟨rfl,uH HR⟩
theorem rwants_any (h:RLies own τ w br g t) {n:Nat} (hf:WFine t n) (k:ByteArray) (x:Wtr) :
    Calls Tryz.prog 77 #[.pointer (some ⟨br,0,none⟩),.int .i64 (n:Int),.string k,wtrV x] w fun r w'=>r= .returned (.tuple #[])∧RLeaves own τ w br (t.wants n k x) w':=by
 cases hfr:t.fresh n k with
 | true=>exact rwants_fresh h hf k x hfr
 | false =>
   by_cases hw:t.c.waiters≤t.waiting n
   ·exact rwants_full h hf k x hfr hw
   ·cases hfe:(t.fetch n k).isSome with
    | true=>exact rwants_joins h hf k x hfr hw hfe
    | false=>exact rwants_sends h hf k x hfr hw hfe
end
end Go.Proofs.YtpdkojgepagbnaaGreatDoor
