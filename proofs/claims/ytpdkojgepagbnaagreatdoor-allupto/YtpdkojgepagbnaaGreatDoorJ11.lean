/-
  An entry is used: its key stands first.
  An entry is used: the tier behind it.
  One asks a cache: told, or must wait.
  One asks a cache that has an entry which is not fresh.
  One asks a cache that has an entry which is fresh.
-/
import Derived.Test.YtpdkojgepagbnaaGreatDoorJ10
import Derived.Laws.CopyRow
import Derived.Laws.IdiomCopy
namespace Go.Proofs.YtpdkojgepagbnaaGreatDoor
set_option maxRecDepth 100000
set_option maxHeartbeats 8000000
section
open Go.RowKit
open Tier (Mes Ans Conf)
attribute [local go_sem ↓] Go.wp_at_zero Go.wp_at_succ
theorem Use_none (own:Own) (τ bt:Nat) (g:Gh) (s:PS) (n:Nat) (k:ByteArray) (w:World) (h:Lies own τ w bt g s) (hn:n<6) (hl:(s.used n).length≤1000) (hp:placeOf k (s.used n) 0=-1) :
    Calls Tryz.prog 104 #[.pointer (some ⟨g.be,0,none⟩),placeV (n,k)] w fun r w'=>r= .returned (.tuple #[])∧Turn nO w w':=by
 have hrow:=(h.used n hn).row
 obtain ⟨ua,uc,hu⟩:=row_form hrow
 have dn:w.cell? ⟨g.be,2+n,none⟩=some (g.u n):=by
   rw [cOf h.ents]
   match n,hn with
   | 0,_=>rfl
   | 1,_=>rfl
   | 2,_=>rfl
   | 3,_=>rfl
   | 4,_=>rfl
   | 5,_=>rfl
 rw [hu] at dn hrow
 have KI:Hid (∀ w',Turn nO w w'→Calls Tryz.prog 125 #[.slice ua ((s.used n).map fun k=>[Value.string k]).length uc,.string k] w' fun r w''=>r= .returned (.int .i64 (-1))∧w''=w'):=fun w' T=>by
   have:=Index_any ua _ uc (s.used n) k w' (by have:=((h.turn T).used n hn).row;rw [hu] at this;exact this) hl
   rw [hp] at this
   exact this
 clear h hrow hu hp
 generalize ((s.used n).map fun k=>[Value.string k]).length=ul at *
 have i0:(0:Int)≤(n:Int):=by omega
 have i1:(n:Int)<6:=by omega
 unfold placeV
 dsimp only
 go_enter Tryz.func104,Tryz.ntmps104
 go_wp2
 generalize hW:World.alloc _ _=W0
 have T0:Turn nO w W0:=by rw [← hW];exact (Turn.alloc _ _ _)
 have hsz:W0.heap.size=w.heap.size+1:=by rw [← hW];simp
 have x0:∃ ty,W0.heap[w.heap.size]?=some (.cells #[.int .i64 (n:Int),.string k] ty (0,0)):=by rw [← hW];exact ⟨_,new1_0 _ _⟩
 obtain ⟨x0_0,x0_1⟩:=eC2 x0
 have cn:=T0.cell dn id
 clear hW dn
 have HS:=fun w' (T:Turn nO W0 w')=>And.intro T (And.intro (T.cell cn id) (And.intro (T.cell x0_0 id) (T.cell x0_1 id)))
 go_region_held3 (fun w'=>Turn nO W0 w'∧w'.cell? ⟨g.be,2+n,none⟩=some (.slice ua ul uc)∧w'.cell? ⟨w.heap.size,0,none⟩=some (.int .i64 (n:Int))∧w'.cell? ⟨w.heap.size,1,none⟩=some (.string k)) ((go_split_ands;apply HS;all_goals (repeat (first|(with_reducible first|assumption|exact Turn.refl _ _|apply Turn.sA|apply Turn.sD|refine tN ?_ (by assumption))|((with_reducible refine Turn.sS ?_ ?_);rotate_left;· first|exact Or.inr rfl|exact Or.inr (Or.inl rfl)|exact Or.inl (by simp <;> omega))|(with_reducible refine tG ?_ (by assumption))|(with_reducible first|apply There.drew|apply There.set|refine hNo ?_ (by assumption))|assumption)))) (fail)
 go_split_ands
 clear HS
 go_wp2_with fail
 refine (uH KI _ T0.sD).mono ?_
 rintro e w1 ⟨rfl,rfl⟩
 go_wp2
 exact bodyPost_ret (v:= .tuple #[]) (by simp [results,Tryz.results104,go_sem]) rfl ⟨rfl,T0.sD⟩
theorem size9:(Tryz.prog.info? 9).map (·.size)=some 1:=by kernel_rfl
theorem slice_one (ub ul uc i:Nat) (h1:i+1≤uc) (h2:uc≠1) (w:World):(Instr.slice 113 (.slice (some ⟨ub,0,none⟩) ul uc) (some (.int .i64 1)) (some (.int .i64 ((i:Int)+1))) none).run Tryz.prog w= .ok (.slice (some ⟨ub,1,none⟩) i (uc - 1)) w:=by
  rw [run_slice_lh w 113 (some ⟨ub,0,none⟩) ul uc Tryz.underlying113 .i64 .i64 1 ((i:Int)+1) (by omega) (by omega) (by omega)]
  have:((i:Int)+1).toNat=i+1:=by omega
  simp [go_sem,this,h2,Result.andThen]
theorem slice_one1 (ub ul:Nat) (w:World):(Instr.slice 113 (.slice (some ⟨ub,0,none⟩) ul 1) (some (.int .i64 1)) (some (.int .i64 (((0:Nat):Int)+1))) none).run Tryz.prog w= .ok (.slice (some ⟨ub,0,none⟩) 0 (1 - 1)) w:=by
  rw [run_slice_lh w 113 (some ⟨ub,0,none⟩) ul 1 Tryz.underlying113 .i64 .i64 1 (((0:Nat):Int)+1) (by omega) (by omega) (by omega)]
  simp [go_sem,Result.andThen]
theorem slice_ones (ub ul uc i:Nat) (h1:i+1≤uc):∃ d:Option Addr,(i≠0→d=some ⟨ub,1,none⟩)∧∀ w:World,(Instr.slice 113 (.slice (some ⟨ub,0,none⟩) ul uc) (some (.int .i64 1)) (some (.int .i64 ((i:Int)+1))) none).run Tryz.prog w= .ok (.slice d i (uc - 1)) w:=by
  by_cases h2:uc=1
  ·subst h2
   obtain rfl:i=0:=by omega
   exact ⟨some ⟨ub,0,none⟩,fun h=>absurd rfl h,fun w=>slice_one1 ub ul w⟩
  ·exact ⟨some ⟨ub,1,none⟩,fun _=>rfl,fun w=>slice_one ub ul uc i h1 h2 w⟩
theorem slice_to (ub ul uc i:Nat) (h1:i+1≤uc) (w:World):(Instr.slice 113 (.slice (some ⟨ub,0,none⟩) ul uc) none (some (.int .i64 (i:Int))) none).run Tryz.prog w= .ok (.slice (some ⟨ub,0,none⟩) i uc) w:=by
  rw [run_slice_h w 113 (some ⟨ub,0,none⟩) ul uc Tryz.underlying113 .i64 (i:Int) (by omega) (by omega)]
  have:uc≠0:=by omega
  simp [go_sem,this,Result.andThen]
theorem heap_setRow {w:World} {b:Nat} {cs cs':Array Value} {ty:TypeId} {fr:Nat × Nat} (h:w.heap[b]?=some (.cells cs ty fr)):(w.setRow b cs').heap[b]?=some (.cells cs' ty fr):=by
  unfold World.setRow
  simp [Array.getElem?_modify,h]
theorem Turn.row (w:World) (b:Nat) (cs:Array Value):Turn (fun k=>k=b) w (w.setRow b cs) :=
  ⟨rfl,rfl,rfl,by simp [World.setRow],fun k _ hk=>setRow_other w b k cs hk⟩
theorem copy_one (ub uc i:Nat) (d:Option Addr) (hd:i≠0→d=some ⟨ub,1,none⟩) (cur:Array Value) (hc:cur.size=uc) (h1:i+1≤uc) (hone:∀ v∈cur.toList.take i,v.oneCell'=true) (w:World) (hb:w.heap[ub]?=some (.cells cur 9 (0,0))) :
    ∃ w1,(Builtin.copy_ #[113,113] 3 #[.slice d i (uc - 1),.slice (some ⟨ub,0,none⟩) i uc]).run Tryz.prog w= .ok (goInt i) w1∧w1.heap[ub]?=some (.cells (cur.toList.take 1 ++ (cur.toList.take i ++ cur.toList.drop (1+i))).toArray 9 (0,0))∧Turn (fun k=>k=ub) w w1:=by
 by_cases h0:i=0
 ·subst h0
  refine ⟨w,run_copy_none w _ _ _ 9 _ _ _ _ _ _ Tryz.underlying113 size9 (by simp),?_,Turn.refl _ _⟩
  rw [hb]
  have:cur.toList.take 1 ++ (cur.toList.take 0 ++ cur.toList.drop (1+0))=cur.toList:=by rw [List.take_zero,List.nil_append,Nat.add_zero,List.take_append_drop]
  rw [this]
 ·rw [hd h0]
  have hl:(cur.toList.take i).length=i:=by simp;omega
  have hrun:=run_copy_row (P:=Tryz.prog) w 113 113 3 9 ub 1 i (uc - 1) ⟨ub,0,none⟩ i uc cur 9 (cur.toList.take i) Tryz.underlying113 size9 hb (by rw [hl];simp) (fun j v hv=>by
    have hadd:(⟨ub,0,none⟩:Addr).add j=⟨ub,j,none⟩:=by unfold Addr.add;split <;> simp_all
    rw [hadd,cOf hb]
    have hj:j<i:=by have:=(List.getElem?_eq_some_iff.1 hv).1;omega
    rw [List.getElem?_take_of_lt hj] at hv
    simpa using hv) (by rw [hl];omega) hone
  rw [hl] at hrun
  refine ⟨_,hrun,?_,Turn.row _ _ _⟩
  rw [heap_setRow hb,List.append_assoc]
theorem Use_some (own:Own) (τ bt:Nat) (g:Gh) (s:PS) (n:Nat) (k:ByteArray) (i:Nat) (w:World) (h:Lies own τ w bt g s) (hn:n<6) (hl:(s.used n).length≤1000) (hp:placeOf k (s.used n) 0=(i:Int)) (hi:i<(s.used n).length) :
    Calls Tryz.prog 104 #[.pointer (some ⟨g.be,0,none⟩),placeV (n,k)] w fun r w'=>r= .returned (.tuple #[])∧∃ ub uc cur,g.u n= .slice (some ⟨ub,0,none⟩) (s.used n).length uc∧own ub=some (τ,7+n)∧Turn (fun k'=>k'=ub) w w'∧w.heap[ub]?=some (.cells cur 9 (0,0))∧w'.heap[ub]?=some (.cells (.string k :: (cur.toList.take i ++ cur.toList.drop (i+1))).toArray 9 (0,0)):=by
 have hrow:=(h.used n hn).row
 have hmine:=(h.used n hn).mine
 have hbe:g.be<w.heap.size:=heap_lt h.ents
 have hlen:((s.used n).map fun k=>[Value.string k]).length=(s.used n).length:=by simp
 have hrow2:=hrow
 obtain ⟨hlf,⟨hv,h0⟩|⟨ub,uc,cur,hu,_,hub,hc1,hc2,hc3,hc4⟩⟩:=hrow
 ·omega
 have dn:w.cell? ⟨g.be,2+n,none⟩=some (g.u n):=by
   rw [cOf h.ents]
   match n,hn with
   | 0,_=>rfl
   | 1,_=>rfl
   | 2,_=>rfl
   | 3,_=>rfl
   | 4,_=>rfl
   | 5,_=>rfl
 have hmu:=hmine ub (by rw [hu];rfl)
 have hbu:g.be≠ub:=fun e=>by have:=h.entsO;rw [e,hmu] at this;injection this with this;injection this with _ this;omega
 rw [hu] at dn
 have KI:Hid (∀ w',Turn nO w w'→Calls Tryz.prog 125 #[.slice (some ⟨ub,0,none⟩) ((s.used n).map fun k=>[Value.string k]).length uc,.string k] w' fun r w''=>r= .returned (.int .i64 (i:Int))∧w''=w'):=fun w' T=>by
   have:=Index_any (some ⟨ub,0,none⟩) _ uc (s.used n) k w' (by have:=((h.turn T).used n hn).row;rw [hu] at this;exact this) hl
   rw [hp] at this
   exact this
 rw [hlen] at KI dn hu hc1
 have HFIN:=hide (And.intro hu (And.intro hmu hub))
 have hcs:cur.size=uc:=by rw [hc3];omega
 have hone:Hid (∀ v∈cur.toList.take i,v.oneCell'=true):=fun v hv=>by
   have hv2:v∈cur.toList.take (((s.used n).map fun k=>[Value.string k]).length*1):=by
     rw [hlen]
     exact List.mem_of_mem_take (i:=i) (by rw [List.take_take];rw [Nat.min_eq_left (by omega)];exact hv)
   rw [hc4] at hv2
   obtain ⟨y,hy,hvy⟩:=List.mem_flatten.1 hv2
   obtain ⟨z,_,rfl⟩:=List.mem_map.1 hy
   simp at hvy
   subst hvy
   rfl
 generalize hul:(s.used n).length=ul at *
 have i0:(0:Int)≤(n:Int):=by omega
 have i1:(n:Int)<6:=by omega
 have i2:(0:Int)≤(i:Int):=by omega
 have i3:(i:Int)+1≤(uc:Int):=by omega
 have i4:(1:Int)≤(i:Int)+1:=by omega
 have i5:(i:Int)≤(uc:Int):=by omega
 have hublt:ub<w.heap.size:=heap_lt hub
 clear h hrow2 hlf hc1 hc2 hc3 hc4 hlen hmine hp
 unfold placeV
 dsimp only
 go_enter Tryz.func104,Tryz.ntmps104
 go_wp2
 generalize hW:World.alloc _ _=W0
 have T0:Turn nO w W0:=by rw [← hW];exact (Turn.alloc _ _ _)
 have hsz:W0.heap.size=w.heap.size+1:=by rw [← hW];simp
 have x0:∃ ty,W0.heap[w.heap.size]?=some (.cells #[.int .i64 (n:Int),.string k] ty (0,0)):=by rw [← hW];exact ⟨_,new1_0 _ _⟩
 obtain ⟨x0_0,x0_1⟩:=eC2 x0
 have cn:=T0.cell dn id
 clear hW dn
 have HS:=fun w' (T:Turn nO W0 w')=>And.intro T (And.intro (T.cell cn id) (And.intro (T.cell x0_0 id) (T.cell x0_1 id)))
 go_region_held3 (fun w'=>Turn nO W0 w'∧w'.cell? ⟨g.be,2+n,none⟩=some (.slice (some ⟨ub,0,none⟩) ul uc)∧w'.cell? ⟨w.heap.size,0,none⟩=some (.int .i64 (n:Int))∧w'.cell? ⟨w.heap.size,1,none⟩=some (.string k)) ((go_split_ands;apply HS;all_goals (repeat (first|(with_reducible first|assumption|exact Turn.refl _ _|apply Turn.sA|apply Turn.sD|refine tN ?_ (by assumption))|((with_reducible refine Turn.sS ?_ ?_);rotate_left;· first|exact Or.inr rfl|exact Or.inr (Or.inl rfl)|exact Or.inl (by simp <;> omega))|(with_reducible refine tG ?_ (by assumption))|(with_reducible first|apply There.drew|apply There.set|refine hNo ?_ (by assumption))|assumption)))) (fail)
 go_split_ands
 clear HS
 go_wp2_with fail
 refine (uH KI _ T0.sD).mono ?_
 rintro e w1 ⟨rfl,rfl⟩
 go_wp2
 have hwr:IntKind.i64.wrap ((i:Int)+1)=(i:Int)+1:=by rw [IntKind.wrap_i64];omega
 have hub2:W0.drew.drew.heap[ub]?=some (.cells cur 9 (0,0)):=(T0.block ub hublt id).trans hub
 have hsl2:=slice_to ub ul uc i (by omega)
 obtain ⟨d,hd,hsl1⟩:=slice_ones ub ul uc i (by omega)
 obtain ⟨w1,hrun,hb1,T1⟩:=copy_one ub uc i d hd cur hcs (by omega) (uH hone) W0.drew.drew hub2
 have x1:w1.cell? ⟨w.heap.size,1,none⟩=some (.string k):=T1.cell (w:=W0.drew.drew) x0_1 (fun e=>by dsimp only at e;omega)
 have hTh:There w1 ub 1:=There.of_cells hb1 (by simp;omega)
 have q0:=peek_some (hTh.are 0 (by omega))
 have q1:=hTh.free 0
 have i6:(0:Int)<(ul:Int):=by omega
 have KB:=hide (And.intro hb1 T1)
 clear hb1 hTh hd hone
 go_region_held3 (fun w'=>Turn (fun k'=>k'=ub) W0 w') ((go_split_ands;first|exact (Turn.refl _ _).sD.sD|exact ((Turn.refl _ _).sD.sD).sT T1 (fun _ _ h=>h))) (fail)
 clear hrun hsl1 hsl2
 go_wp2
 go_end0
 obtain ⟨e1,e2,e3⟩:=uH HFIN
 refine ⟨rfl,ub,uc,cur,e1,e2,?_,e3,?_⟩
 ·exact Turn.sS (M:=fun k'=>k'=ub) (((T0.mono (fun _ _ h=>False.elim h)).sD.sD).sT (uH KB).2 (fun _ _ h=>h)) (Or.inr rfl)
 ·rw [heap_set (uH KB).1]
  have hcl:cur.toList≠[]:=fun e=>by
    have h0:cur.toList.length=0:=by rw [e];rfl
    rw [Array.length_toList,hcs] at h0
    omega
  obtain ⟨c0,cr,hcc⟩:=List.exists_cons_of_ne_nil hcl
  have e1:cur.toList.take 1=[c0]:=by rw [hcc];rfl
  rw [e1,Nat.add_comm 1 i]
  rfl
end
section
open Go.RowKit
open Tier (Mes Ans Conf)
theorem placeOf_cases (k:ByteArray):∀ (l:List ByteArray) (j:Nat),placeOf k l j=-1∨∃ i,i<l.length∧placeOf k l j=((j+i:Nat):Int)∧l[i]?=some k
  | [],_=>Or.inl rfl
  | x :: r,j=>by
    unfold placeOf
    by_cases h:k=x
    ·rw [if_pos h]
     exact Or.inr ⟨0,by simp,by simp,by simp [h]⟩
    ·rw [if_neg h]
     rcases placeOf_cases k r (j+1) with e|⟨i,hi,e,hx⟩
     ·exact Or.inl e
     ·exact Or.inr ⟨i+1,by simp;omega,by rw [e];congr 1;omega,by simpa using hx⟩
def useL (k:ByteArray) (l:List ByteArray):List ByteArray:=if placeOf k l 0=-1 then l else k :: (l.take (placeOf k l 0).toNat ++ l.drop ((placeOf k l 0).toNat+1))
def PS.use (s:PS) (n:Nat) (k:ByteArray):PS:={ s with used:=fun m=>if m=n then useL k (s.used n) else s.used m }
theorem flat_strings (l:List ByteArray):(l.map fun k=>[Value.string k]).flatten=l.map Value.string:=by
  induction l with
  | nil=>rfl
  | cons x r ih=>simp [ih]
theorem Lies.usedBy {own:Own} {τ:Nat} {w w':World} {bt:Nat} {g:Gh} {s:PS} (h:Lies own τ w bt g s) {n:Nat} (hn:n<6) {k:ByteArray} {i ub uc:Nat} {cur:Array Value} (hp:placeOf k (s.used n) 0=(i:Int)) (hi:i<(s.used n).length) (hu:g.u n= .slice (some ⟨ub,0,none⟩) (s.used n).length uc) (ho:own ub=some (τ,7+n)) (hT:Turn (fun k'=>k'=ub) w w') (hb:w.heap[ub]?=some (.cells cur 9 (0,0)))
    (hb':w'.heap[ub]?=some (.cells (.string k :: (cur.toList.take i ++ cur.toList.drop (i+1))).toArray 9 (0,0))):Lies own τ w' bt g (s.use n k)∧Step τ own own w w':=by
 have F:Fr (fun x=>x=7+n) own own τ w w':=⟨fun k' hk x hx ho'=>⟨hT.block k' hk (fun e=>by rw [e,ho] at ho';cases ho';exact hx rfl),rfl⟩⟩
 refine ⟨⟨fun k' hk=>h.top k' (Nat.le_trans hT.size hk),⟨F.block h.tierO (by omega) h.tier.block⟩,h.tierO,F.row h.pars (by omega),F.block h.origO (by omega) h.orig,h.origO,F.map h.recsO (by omega) h.recs,h.recsO,F.block h.entsO (by omega) h.ents,h.entsO,F.map h.foundO (by omega) h.found,h.foundO,fun j hj=>?_,F.map h.ftsO (by omega) h.fts,h.ftsO,fun p hp=>F.row (h.waits p hp) (by omega),F.row h.net (by omega),F.row h.ans (by omega)⟩,⟨hT.mono (fun k' _ e=>⟨7+n,by rw [e];exact ho⟩),fun _ _=>Or.inl rfl⟩⟩
 by_cases e:j=n
 ·subst e
  have hr:=h.used j hj
  have hrow:=hr.row
  have hlen:((s.used j).map fun k=>[Value.string k]).length=(s.used j).length:=by simp
  rw [hu,flat_strings,hlen] at hrow
  obtain ⟨_,⟨hv,_⟩|⟨g0,c0,cur0,hv,_,hg0,h1,h2,h3,h4⟩⟩:=hrow
  ·cases hv
  ·cases hv
   rw [hb] at hg0
   cases hg0
   have hul:((s.use j k).used j)=k :: ((s.used j).take i ++ (s.used j).drop (i+1)):=by
     simp only [PS.use,if_true,useL,hp]
     rw [if_neg (by omega)]
     simp
   refine ⟨?_,hr.mine⟩
   rw [hul,flat_strings,hu]
   have hl2:(k :: ((s.used j).take i ++ (s.used j).drop (i+1))).length=(s.used j).length:=by simp;omega
   refine ⟨by simp <;> omega,Or.inr ⟨ub,uc,_,by rw [List.length_map,hl2],Nat.zero_le _,hb',by rw [List.length_map,hl2];exact h1,h2,?_,?_⟩⟩
   ·have hcs:cur.toList.length=uc*1:=by simpa using h3
    simp at hcs ⊢
    omega
   ·have hc4:cur.toList.take (s.used j).length=(s.used j).map Value.string:=by simpa using h4
    rw [List.length_map,hl2,Nat.mul_one,List.map_cons,List.map_append,List.map_take,List.map_drop,← hc4]
    have hci:i<cur.toList.length:=by
      have:cur.toList.length=uc*1:=by simpa using h3
      omega
    obtain ⟨L,hL⟩:∃ L,(s.used j).length=L+1:=⟨(s.used j).length - 1,by omega⟩
    rw [hL,List.take_take,Nat.min_eq_left (by omega),List.drop_take,show L+1 - (i+1)=L - i by omega]
    show List.take (L+1) (Value.string k :: (cur.toList.take i ++ cur.toList.drop (i+1)))=_
    rw [List.take_succ_cons,List.take_append,List.length_take,Nat.min_eq_left (by omega),List.take_take,Nat.min_eq_right (by omega)]
 ·have:(s.use n k).used j=s.used j:=by simp [PS.use,e]
  rw [this]
  exact F.row (h.used j hj) (by omega)
theorem Use_any (own:Own) (τ bt:Nat) (g:Gh) (s:PS) (n:Nat) (k:ByteArray) (w:World) (h:Lies own τ w bt g s) (hn:n<6) (hl:(s.used n).length≤1000) :
    Calls Tryz.prog 104 #[.pointer (some ⟨g.be,0,none⟩),placeV (n,k)] w fun r w'=>r= .returned (.tuple #[])∧Lies own τ w' bt g (s.use n k)∧Step τ own own w w':=by
 rcases placeOf_cases k (s.used n) 0 with hp|⟨i,hi,hp,_⟩
 ·refine (Use_none own τ bt g s n k w h hn hl hp).mono ?_
  rintro e w' ⟨rfl,T⟩
  have:s.use n k=s:=by
    unfold PS.use
    have:(fun m=>if m=n then useL k (s.used n) else s.used m)=s.used:=by
      funext m
      by_cases e:m=n
      ·subst e;simp [useL,hp]
      ·simp [e]
    rw [this]
  exact ⟨rfl,by rw [this];exact h.turn T,Step.of_turn T⟩
 ·rw [Nat.zero_add] at hp
  refine (Use_some own τ bt g s n k i w h hn hl hp hi).mono ?_
  rintro e w' ⟨rfl,ub,uc,cur,hu,ho,hT,hb,hb'⟩
  obtain ⟨L,S⟩:=h.usedBy hn hp hi hu ho hT hb hb'
  exact ⟨rfl,L,S⟩
end
section
open Go.RowKit
open Tier (Mes Ans Conf)
attribute [local go_sem ↓] Go.wp_at_zero Go.wp_at_succ
theorem asked_none (own:Own) (τ bt:Nat) (g:Gh) (s:PS) (n:Nat) (k:ByteArray) (x:Wt) (w:World) (h:Lies own τ w bt g s) (hf:s.Fine) (hn:n<6) (h2:k.size≤100) (hser:s.serial<1000000000000) (hl1:s.net.length<1000000000000) (hl2:s.answers.length<1000000000000) (hpar:n<s.c.parents.length) (he:s.entry n k=none) :
    Calls Tryz.prog 76 #[.pointer (some ⟨bt,0,none⟩),placeV (n,k),wtV x] w fun r w'=>r= .returned (.tuple #[])∧∃ own' g' v,Lies own' τ w' bt g' (s.wait n k x v)∧Step τ own own' w w'∧g.Like g':=by
 have HH:=hide h
 have d12:w.cell? ⟨bt,12,none⟩=some (.pointer (some ⟨g.be,0,none⟩)):=cOf h.tier.block 12
 have KA:=hide (fun w (h:Hid (Lies own τ w bt g s))=>At_lies n k w h (by omega) h2)
 have KW:=hide (fun w (h:Lies own τ w bt g s)=>wait_any own τ bt g s n k x w h hf hn h2 hser hl1 hl2 hpar)
 rw [he] at KA
 clear h hf hser hl1 hl2 hpar he
 have hxv:wtV x= .agg #[.int .i64 x.child,.int .i64 x.serial,.int .i64 x.tag,.int .i64 x.id]:=rfl
 rw [hxv] at KW ⊢
 obtain ⟨child,serial,tag,cid⟩:=x
 simp only [entV,placeV,noEnt,Option.getD,Option.isSome] at KA KW ⊢
 clear hxv
 go_enter Tryz.func76,Tryz.ntmps76
 go_wp2
 generalize hW:World.alloc _ _=W0
 have T0:Turn nO w W0:=by rw [← hW];exact (Turn.alloc _ _ _).sA
 have hsz:W0.heap.size=w.heap.size+1+1:=by rw [← hW];simp
 have x0:∃ ty,W0.heap[w.heap.size]?=some (.cells #[.int .i64 (n:Int),.string k] ty (0,0)):=by rw [← hW];exact ⟨_,new2_0 _ _ _⟩
 obtain ⟨x0_0,x0_1⟩:=eC2 x0
 have x1:∃ ty,W0.heap[w.heap.size+1]?=some (.cells #[.int .i64 child,.int .i64 serial,.int .i64 tag,.int .i64 cid] ty (0,0)):=by rw [← hW];exact ⟨_,new2_1 _ _ _⟩
 obtain ⟨x1_0,x1_1,x1_2,x1_3⟩:=eC4 x1
 have c12:=T0.cell d12 id
 have HL:=hide ((uH HH).turn T0)
 clear hW d12
 have HS:=fun w' (T:Turn nO W0 w')=>And.intro T (And.intro (T.cell c12 id) (And.intro (T.cell x0_0 id) (And.intro (T.cell x0_1 id) (And.intro (T.cell x1_0 id) (And.intro (T.cell x1_1 id) (And.intro (T.cell x1_2 id) (And.intro (T.cell x1_3 id) ((show Hid (Lies own τ w' bt g s) from ((uH HL).turn T))))))))))
 go_region_held3 (fun w'=>Turn nO W0 w'∧w'.cell? ⟨bt,12,none⟩=some (.pointer (some ⟨g.be,0,none⟩))∧w'.cell? ⟨w.heap.size,0,none⟩=some (.int .i64 (n:Int))∧w'.cell? ⟨w.heap.size,1,none⟩=some (.string k)∧w'.cell? ⟨w.heap.size+1,0,none⟩=some (.int .i64 child)∧w'.cell? ⟨w.heap.size+1,1,none⟩=some (.int .i64 serial)∧w'.cell? ⟨w.heap.size+1,2,none⟩=some (.int .i64 tag)∧w'.cell? ⟨w.heap.size+1,3,none⟩=some (.int .i64 cid)∧(Hid (Lies own τ w' bt g s))) ((go_split_ands;apply HS;all_goals (repeat (first|(with_reducible first|assumption|exact Turn.refl _ _|apply Turn.sA|apply Turn.sD|refine tN ?_ (by assumption))|((with_reducible refine Turn.sS ?_ ?_);rotate_left;· first|exact Or.inr rfl|exact Or.inr (Or.inl rfl)|exact Or.inl (by simp <;> omega))|(with_reducible refine tG ?_ (by assumption))|(with_reducible first|apply There.drew|apply There.set|refine hNo ?_ (by assumption))|assumption)))) (first|(go_at_call 65;go_split_ands;refine (uH KA _ (by assumption)).mono ?_;rintro e wq ⟨rfl,TC⟩;(try (have TH:=there_new (n:=4) TC hsz (by simp);have q0:=peek_some (TH.are 0 (by omega));have q1:=peek_some (TH.are 1 (by omega));have q2:=peek_some (TH.are 2 (by omega));have q3:=peek_some (TH.are 3 (by omega));have q4:=peek_some (TH.are 4 (by omega));have r0:=TH.free 0;have r1:=TH.free 1;have r2:=TH.free 2;have r3:=TH.free 3;have r4:=TH.free 4))))
 all_goals go_split_ands
 all_goals clear HS
 ·generalize hX:World.alloc _ _=X
  have TX:Turn nO W0 X:=by rw [← hX];assumption
  clear hX TC
  have y00:=TX.cell x0_0 id
  have y01:=TX.cell x0_1 id
  have y10:=TX.cell x1_0 id
  have y11:=TX.cell x1_1 id
  have y12:=TX.cell x1_2 id
  have y13:=TX.cell x1_3 id
  go_wp2_with fail
  refine (uH KW X ((uH HL).turn TX)).mono ?_
  rintro e w4 ⟨rfl,own4,g4,v4,L4,S4,GL4⟩
  have HE:=hide (And.intro L4 (And.intro ((Step.of_turn (T0.sT TX (fun _ _ h=>h))).trans S4) GL4))
  clear L4 S4 GL4
  go_wp2
  exact bodyPost_ret (v:= .tuple #[]) (by simp [results,Tryz.results76,go_sem]) rfl ⟨rfl,own4,g4,v4,(uH HE).1,(uH HE).2.1,(uH HE).2.2⟩
 ·generalize hX:World.setCell _ _ _=X
  have TX:Turn nO W0 X:=by rw [← hX];assumption
  clear hX TC
  have y00:=TX.cell x0_0 id
  have y01:=TX.cell x0_1 id
  have y10:=TX.cell x1_0 id
  have y11:=TX.cell x1_1 id
  have y12:=TX.cell x1_2 id
  have y13:=TX.cell x1_3 id
  go_wp2_with fail
  refine (uH KW X ((uH HL).turn TX)).mono ?_
  rintro e w4 ⟨rfl,own4,g4,v4,L4,S4,GL4⟩
  have HE:=hide (And.intro L4 (And.intro ((Step.of_turn (T0.sT TX (fun _ _ h=>h))).trans S4) GL4))
  clear L4 S4 GL4
  go_wp2
  exact bodyPost_ret (v:= .tuple #[]) (by simp [results,Tryz.results76,go_sem]) rfl ⟨rfl,own4,g4,v4,(uH HE).1,(uH HE).2.1,(uH HE).2.2⟩
theorem asked_stale (own:Own) (τ bt:Nat) (g:Gh) (s:PS) (n:Nat) (k:ByteArray) (x:Wt) (e:Ent) (w:World) (h:Lies own τ w bt g s) (hf:s.Fine) (hn:n<6) (h2:k.size≤100) (hser:s.serial<1000000000000) (hl1:s.net.length<1000000000000) (hl2:s.answers.length<1000000000000) (hpar:n<s.c.parents.length) (he:s.entry n k=some e) (hage:¬ ageAt s.c.drift (s.clk n) e≤s.c.budget) :
    Calls Tryz.prog 76 #[.pointer (some ⟨bt,0,none⟩),placeV (n,k),wtV x] w fun r w'=>r= .returned (.tuple #[])∧∃ own' g' v,Lies own' τ w' bt g' (s.wait n k x v)∧Step τ own own' w w'∧g.Like g':=by
 have HH:=hide h
 have d12:w.cell? ⟨bt,12,none⟩=some (.pointer (some ⟨g.be,0,none⟩)):=cOf h.tier.block 12
 have KA:=hide (fun w (h:Hid (Lies own τ w bt g s))=>At_lies n k w h (by omega) h2)
 have KW:=hide (fun w (h:Lies own τ w bt g s)=>wait_any own τ bt g s n k x w h hf hn h2 hser hl1 hl2 hpar)
 have hfe:e.Fine (s.clk n):=(hf.ents _ (aget_mem he)).1
 have KI:Hid (∀ w,Lies own τ w bt g s→Calls Tryz.prog 102 #[.pointer (some ⟨bt,0,none⟩),.int .i64 (n:Int),entV e] w fun r w'=>r= .returned (.bool false)∧Turn nO w w'):=fun w h=>by
   have:=isFresh_any bt (s.ts g) n e w h.tier (hf.ts g) hn hfe
   rw [show decide (ageAt (s.ts g).drift ((s.ts g).clk n) e≤(s.ts g).budget)=false from decide_eq_false hage] at this
   exact this
 rw [he] at KA
 clear h hf hser hl1 hl2 hpar he hage hfe
 have hxv:wtV x= .agg #[.int .i64 x.child,.int .i64 x.serial,.int .i64 x.tag,.int .i64 x.id]:=rfl
 rw [hxv] at KW ⊢
 obtain ⟨child,serial,tag,cid⟩:=x
 obtain ⟨ver,pres,val,base,since⟩:=e
 simp only [entV,placeV,Option.getD,Option.isSome] at KA KW KI ⊢
 clear hxv
 go_enter Tryz.func76,Tryz.ntmps76
 go_wp2
 generalize hW:World.alloc _ _=W0
 have T0:Turn nO w W0:=by rw [← hW];exact (Turn.alloc _ _ _).sA
 have hsz:W0.heap.size=w.heap.size+1+1:=by rw [← hW];simp
 have x0:∃ ty,W0.heap[w.heap.size]?=some (.cells #[.int .i64 (n:Int),.string k] ty (0,0)):=by rw [← hW];exact ⟨_,new2_0 _ _ _⟩
 obtain ⟨x0_0,x0_1⟩:=eC2 x0
 have x1:∃ ty,W0.heap[w.heap.size+1]?=some (.cells #[.int .i64 child,.int .i64 serial,.int .i64 tag,.int .i64 cid] ty (0,0)):=by rw [← hW];exact ⟨_,new2_1 _ _ _⟩
 obtain ⟨x1_0,x1_1,x1_2,x1_3⟩:=eC4 x1
 have c12:=T0.cell d12 id
 have HL:=hide ((uH HH).turn T0)
 clear hW d12
 have HS:=fun w' (T:Turn nO W0 w')=>And.intro T (And.intro (T.cell c12 id) (And.intro (T.cell x0_0 id) (And.intro (T.cell x0_1 id) (And.intro (T.cell x1_0 id) (And.intro (T.cell x1_1 id) (And.intro (T.cell x1_2 id) (And.intro (T.cell x1_3 id) ((show Hid (Lies own τ w' bt g s) from ((uH HL).turn T))))))))))
 go_region_held3 (fun w'=>Turn nO W0 w'∧w'.cell? ⟨bt,12,none⟩=some (.pointer (some ⟨g.be,0,none⟩))∧w'.cell? ⟨w.heap.size,0,none⟩=some (.int .i64 (n:Int))∧w'.cell? ⟨w.heap.size,1,none⟩=some (.string k)∧w'.cell? ⟨w.heap.size+1,0,none⟩=some (.int .i64 child)∧w'.cell? ⟨w.heap.size+1,1,none⟩=some (.int .i64 serial)∧w'.cell? ⟨w.heap.size+1,2,none⟩=some (.int .i64 tag)∧w'.cell? ⟨w.heap.size+1,3,none⟩=some (.int .i64 cid)∧(Hid (Lies own τ w' bt g s))) ((go_split_ands;apply HS;all_goals (repeat (first|(with_reducible first|assumption|exact Turn.refl _ _|apply Turn.sA|apply Turn.sD|refine tN ?_ (by assumption))|((with_reducible refine Turn.sS ?_ ?_);rotate_left;· first|exact Or.inr rfl|exact Or.inr (Or.inl rfl)|exact Or.inl (by simp <;> omega))|(with_reducible refine tG ?_ (by assumption))|(with_reducible first|apply There.drew|apply There.set|refine hNo ?_ (by assumption))|assumption)))) (first|(go_at_call 65;go_split_ands;refine (uH KA _ (by assumption)).mono ?_;rintro e wq ⟨rfl,TC⟩;(try (have TH:=there_new (n:=4) TC hsz (by simp);have q0:=peek_some (TH.are 0 (by omega));have q1:=peek_some (TH.are 1 (by omega));have q2:=peek_some (TH.are 2 (by omega));have q3:=peek_some (TH.are 3 (by omega));have q4:=peek_some (TH.are 4 (by omega));have r0:=TH.free 0;have r1:=TH.free 1;have r2:=TH.free 2;have r3:=TH.free 3;have r4:=TH.free 4))))
 all_goals go_split_ands
 all_goals clear HS
 ·generalize hX:World.alloc _ _=X
  have TX:Turn nO W0 X:=by rw [← hX];assumption
  have z0:X.cell? ⟨wq.heap.size,0,none⟩=some (.int .i64 ver):=by rw [← hX];exact cOf (new1_0 wq _) 0
  have z1:X.cell? ⟨wq.heap.size,1,none⟩=some (.int .i64 pres):=by rw [← hX];exact cOf (new1_0 wq _) 1
  have z2:X.cell? ⟨wq.heap.size,2,none⟩=some (.string val):=by rw [← hX];exact cOf (new1_0 wq _) 2
  have z3:X.cell? ⟨wq.heap.size,3,none⟩=some (.int .i64 base):=by rw [← hX];exact cOf (new1_0 wq _) 3
  have z4:X.cell? ⟨wq.heap.size,4,none⟩=some (.int .i64 since):=by rw [← hX];exact cOf (new1_0 wq _) 4
  clear hX TC
  have y00:=TX.cell x0_0 id
  have y01:=TX.cell x0_1 id
  have y10:=TX.cell x1_0 id
  have y11:=TX.cell x1_1 id
  have y12:=TX.cell x1_2 id
  have y13:=TX.cell x1_3 id
  have HLX:=hide ((uH HL).turn TX)
  go_wp2_with fail
  refine (uH KI X (uH HLX)).mono ?_
  rintro e w5 ⟨rfl,T5⟩
  have TX5:Turn nO W0 w5:=TX.sT T5 (fun _ _ h=>h)
  have u00:=TX5.cell x0_0 id
  have u01:=TX5.cell x0_1 id
  have u10:=TX5.cell x1_0 id
  have u11:=TX5.cell x1_1 id
  have u12:=TX5.cell x1_2 id
  have u13:=TX5.cell x1_3 id
  go_wp2_with fail
  refine (uH KW w5 ((uH HL).turn TX5)).mono ?_
  rintro e w4 ⟨rfl,own4,g4,v4,L4,S4,GL4⟩
  have HE:=hide (And.intro L4 (And.intro ((Step.of_turn (T0.sT TX5 (fun _ _ h=>h))).trans S4) GL4))
  clear L4 S4 GL4
  go_wp2
  exact bodyPost_ret (v:= .tuple #[]) (by simp [results,Tryz.results76,go_sem]) rfl ⟨rfl,own4,g4,v4,(uH HE).1,(uH HE).2.1,(uH HE).2.2⟩
 ·generalize hX:World.setCell _ _ _=X
  have TX:Turn nO W0 X:=by rw [← hX];assumption
  have z0:X.cell? ⟨w.heap.size+1+1,0,none⟩=some (.int .i64 ver):=by rw [← hX];simp [go_sem,TH.are 0 (by omega)]
  have z1:X.cell? ⟨w.heap.size+1+1,1,none⟩=some (.int .i64 pres):=by rw [← hX];simp [go_sem,TH.are 1 (by omega)]
  have z2:X.cell? ⟨w.heap.size+1+1,2,none⟩=some (.string val):=by rw [← hX];simp [go_sem,TH.are 2 (by omega)]
  have z3:X.cell? ⟨w.heap.size+1+1,3,none⟩=some (.int .i64 base):=by rw [← hX];simp [go_sem,TH.are 3 (by omega)]
  have z4:X.cell? ⟨w.heap.size+1+1,4,none⟩=some (.int .i64 since):=by rw [← hX];simp [go_sem,TH.are 4 (by omega)]
  clear hX TC
  have y00:=TX.cell x0_0 id
  have y01:=TX.cell x0_1 id
  have y10:=TX.cell x1_0 id
  have y11:=TX.cell x1_1 id
  have y12:=TX.cell x1_2 id
  have y13:=TX.cell x1_3 id
  have HLX:=hide ((uH HL).turn TX)
  go_wp2_with fail
  refine (uH KI X (uH HLX)).mono ?_
  rintro e w5 ⟨rfl,T5⟩
  have TX5:Turn nO W0 w5:=TX.sT T5 (fun _ _ h=>h)
  have u00:=TX5.cell x0_0 id
  have u01:=TX5.cell x0_1 id
  have u10:=TX5.cell x1_0 id
  have u11:=TX5.cell x1_1 id
  have u12:=TX5.cell x1_2 id
  have u13:=TX5.cell x1_3 id
  go_wp2_with fail
  refine (uH KW w5 ((uH HL).turn TX5)).mono ?_
  rintro e w4 ⟨rfl,own4,g4,v4,L4,S4,GL4⟩
  have HE:=hide (And.intro L4 (And.intro ((Step.of_turn (T0.sT TX5 (fun _ _ h=>h))).trans S4) GL4))
  clear L4 S4 GL4
  go_wp2
  exact bodyPost_ret (v:= .tuple #[]) (by simp [results,Tryz.results76,go_sem]) rfl ⟨rfl,own4,g4,v4,(uH HE).1,(uH HE).2.1,(uH HE).2.2⟩
theorem asked_fresh (own:Own) (τ bt:Nat) (g:Gh) (s:PS) (n:Nat) (k:ByteArray) (x:Wt) (e:Ent) (w:World) (h:Lies own τ w bt g s) (hf:s.Fine) (hn:n<6) (h2:k.size≤100) (hul:(s.used n).length≤1000) (hl1:s.net.length<1000000000000) (hl2:s.answers.length<1000000000000) (he:s.entry n k=some e) (hage:ageAt s.c.drift (s.clk n) e≤s.c.budget) :
    Calls Tryz.prog 76 #[.pointer (some ⟨bt,0,none⟩),placeV (n,k),wtV x] w fun r w'=>r= .returned (.tuple #[])∧∃ own' g',Lies own' τ w' bt g' ((s.use n k).tell n x (seen k e (ageAt s.c.drift (s.clk n) e)))∧Step τ own own' w w'∧g.Like g':=by
 have HH:=hide h
 have htop:Hid (∀ k',w.heap.size≤k'→own k'=none):=h.top
 have d12:w.cell? ⟨bt,12,none⟩=some (.pointer (some ⟨g.be,0,none⟩)):=cOf h.tier.block 12
 have KA:=hide (fun w (h:Hid (Lies own τ w bt g s))=>At_lies n k w h (by omega) h2)
 have hfe:e.Fine (s.clk n):=(hf.ents _ (aget_mem he)).1
 have KI:Hid (∀ w,Lies own τ w bt g s→Calls Tryz.prog 102 #[.pointer (some ⟨bt,0,none⟩),.int .i64 (n:Int),entV e] w fun r w'=>r= .returned (.bool true)∧Turn nO w w'):=fun w h=>by
   have:=isFresh_any bt (s.ts g) n e w h.tier (hf.ts g) hn hfe
   rw [show decide (ageAt (s.ts g).drift ((s.ts g).clk n) e≤(s.ts g).budget)=true from decide_eq_true hage] at this
   exact this
 have KU:=hide (fun w (h:Lies own τ w bt g s)=>Use_any own τ bt g s n k w h hn hul)
 have KS:Hid (∀ w,Lies own τ w bt g (s.use n k)→Calls Tryz.prog 66 #[.pointer (some ⟨bt,0,none⟩),placeV (n,k),entV e] w fun r w'=>r= .returned (seeV (seen k e (ageAt s.c.drift (s.clk n) e)))∧Turn nO w w'):=fun w h=>shown_any bt (s.ts g) n k e w h.tier (hf.ts g) hn hfe
 have KT:=hide (fun w (h:Lies own τ w bt g (s.use n k))=>tell_any own τ bt g (s.use n k) n x (seen k e (ageAt s.c.drift (s.clk n) e)) w h hl1 hl2)
 rw [he] at KA
 clear h hf hl1 hl2 he hage hfe hul
 generalize ageAt s.c.drift (s.clk n) e=ag at *
 have hxv:wtV x= .agg #[.int .i64 x.child,.int .i64 x.serial,.int .i64 x.tag,.int .i64 x.id]:=rfl
 rw [hxv] at KT ⊢
 obtain ⟨child,serial,tag,cid⟩:=x
 obtain ⟨ver,pres,val,base,since⟩:=e
 simp only [entV,placeV,seeV,seen,Option.getD,Option.isSome] at KA KI KU KS KT ⊢
 clear hxv
 go_enter Tryz.func76,Tryz.ntmps76
 go_wp2
 generalize hW:World.alloc _ _=W0
 have T0:Turn nO w W0:=by rw [← hW];exact (Turn.alloc _ _ _).sA
 have hsz:W0.heap.size=w.heap.size+1+1:=by rw [← hW];simp
 have x0:∃ ty,W0.heap[w.heap.size]?=some (.cells #[.int .i64 (n:Int),.string k] ty (0,0)):=by rw [← hW];exact ⟨_,new2_0 _ _ _⟩
 obtain ⟨x0_0,x0_1⟩:=eC2 x0
 have x1:∃ ty,W0.heap[w.heap.size+1]?=some (.cells #[.int .i64 child,.int .i64 serial,.int .i64 tag,.int .i64 cid] ty (0,0)):=by rw [← hW];exact ⟨_,new2_1 _ _ _⟩
 obtain ⟨x1_0,x1_1,x1_2,x1_3⟩:=eC4 x1
 have c12:=T0.cell d12 id
 have HL:=hide ((uH HH).turn T0)
 clear hW d12
 have HS:=fun w' (T:Turn nO W0 w')=>And.intro T (And.intro (T.cell c12 id) (And.intro (T.cell x0_0 id) (And.intro (T.cell x0_1 id) (And.intro (T.cell x1_0 id) (And.intro (T.cell x1_1 id) (And.intro (T.cell x1_2 id) (And.intro (T.cell x1_3 id) ((show Hid (Lies own τ w' bt g s) from ((uH HL).turn T))))))))))
 go_region_held3 (fun w'=>Turn nO W0 w'∧w'.cell? ⟨bt,12,none⟩=some (.pointer (some ⟨g.be,0,none⟩))∧w'.cell? ⟨w.heap.size,0,none⟩=some (.int .i64 (n:Int))∧w'.cell? ⟨w.heap.size,1,none⟩=some (.string k)∧w'.cell? ⟨w.heap.size+1,0,none⟩=some (.int .i64 child)∧w'.cell? ⟨w.heap.size+1,1,none⟩=some (.int .i64 serial)∧w'.cell? ⟨w.heap.size+1,2,none⟩=some (.int .i64 tag)∧w'.cell? ⟨w.heap.size+1,3,none⟩=some (.int .i64 cid)∧(Hid (Lies own τ w' bt g s))) ((go_split_ands;apply HS;all_goals (repeat (first|(with_reducible first|assumption|exact Turn.refl _ _|apply Turn.sA|apply Turn.sD|refine tN ?_ (by assumption))|((with_reducible refine Turn.sS ?_ ?_);rotate_left;· first|exact Or.inr rfl|exact Or.inr (Or.inl rfl)|exact Or.inl (by simp <;> omega))|(with_reducible refine tG ?_ (by assumption))|(with_reducible first|apply There.drew|apply There.set|refine hNo ?_ (by assumption))|assumption)))) (first|(go_at_call 65;go_split_ands;refine (uH KA _ (by assumption)).mono ?_;rintro e wq ⟨rfl,TC⟩;(try (have TH:=there_new (n:=4) TC hsz (by simp);have q0:=peek_some (TH.are 0 (by omega));have q1:=peek_some (TH.are 1 (by omega));have q2:=peek_some (TH.are 2 (by omega));have q3:=peek_some (TH.are 3 (by omega));have q4:=peek_some (TH.are 4 (by omega));have r0:=TH.free 0;have r1:=TH.free 1;have r2:=TH.free 2;have r3:=TH.free 3;have r4:=TH.free 4))))
 all_goals go_split_ands
 all_goals clear HS
 ·generalize hX:World.alloc _ _=X
  have TX:Turn nO W0 X:=by rw [← hX];assumption
  have z0:X.cell? ⟨wq.heap.size,0,none⟩=some (.int .i64 ver):=by rw [← hX];exact cOf (new1_0 wq _) 0
  have z1:X.cell? ⟨wq.heap.size,1,none⟩=some (.int .i64 pres):=by rw [← hX];exact cOf (new1_0 wq _) 1
  have z2:X.cell? ⟨wq.heap.size,2,none⟩=some (.string val):=by rw [← hX];exact cOf (new1_0 wq _) 2
  have z3:X.cell? ⟨wq.heap.size,3,none⟩=some (.int .i64 base):=by rw [← hX];exact cOf (new1_0 wq _) 3
  have z4:X.cell? ⟨wq.heap.size,4,none⟩=some (.int .i64 since):=by rw [← hX];exact cOf (new1_0 wq _) 4
  have hwqs:=TC.size
  clear hX TC
  have y00:=TX.cell x0_0 id
  have y01:=TX.cell x0_1 id
  have y10:=TX.cell x1_0 id
  have y11:=TX.cell x1_1 id
  have y12:=TX.cell x1_2 id
  have y13:=TX.cell x1_3 id
  have HLX:=hide ((uH HL).turn TX)
  go_wp2_with fail
  refine (uH KI X (uH HLX)).mono ?_
  rintro e w5 ⟨rfl,T5⟩
  have TX5:Turn nO W0 w5:=TX.sT T5 (fun _ _ h=>h)
  have u00:=TX5.cell x0_0 id
  have u01:=TX5.cell x0_1 id
  have u10:=TX5.cell x1_0 id
  have u11:=TX5.cell x1_1 id
  have u12:=TX5.cell x1_2 id
  have u13:=TX5.cell x1_3 id
  have t0:=T5.cell z0 id
  have t1:=T5.cell z1 id
  have t2:=T5.cell z2 id
  have t3:=T5.cell z3 id
  have t4:=T5.cell z4 id
  have hBw:w.heap.size≤wq.heap.size:=Nat.le_trans (by omega:w.heap.size≤w.heap.size+1+1) (hsz ▸ hwqs)
  have hS4:Hid (∀ (w':World) (s':PS),Lies own τ w' bt g s'→w'.cell? ⟨w.heap.size,0,none⟩=some (.int .i64 (n:Int))→w'.cell? ⟨w.heap.size,1,none⟩=some (.string k)→w'.cell? ⟨bt,12,none⟩=some (.pointer (some ⟨g.be,0,none⟩))∧w'.cell? ⟨w.heap.size,0,none⟩=some (.int .i64 (n:Int))∧w'.cell? ⟨w.heap.size,1,none⟩=some (.string k)):=fun w' s' hl a b=>⟨cOf hl.tier.block 12,a,b⟩
  have hno:∀ {b:Nat},w.heap.size≤b→own b=none:=fun hb=>uH htop _ hb
  go_split_ands
  go_wp2
  go_region_held3 (fun w'=>w'.cell? ⟨bt,12,none⟩=some (.pointer (some ⟨g.be,0,none⟩))∧w'.cell? ⟨w.heap.size,0,none⟩=some (.int .i64 (n:Int))∧w'.cell? ⟨w.heap.size,1,none⟩=some (.string k))
    ((first|exact uH hS4 _ s ((uH HL).turn TX5.sD) u00 u01|exact uH hS4 _ _ L6 (S6.cell (w:=w5.drew) u00 (hno (Nat.le_refl _))) (S6.cell (w:=w5.drew) u01 (hno (Nat.le_refl _)))))
    (first|(go_at_call 104;refine (uH KU _ ((uH HL).turn TX5.sD)).mono ?_;rintro e w6 ⟨rfl,L6,S6⟩))
  go_split_ands
  have a00:=S6.cell (w:=w5.drew) u00 (hno (by dsimp only;omega))
  have a01:=S6.cell (w:=w5.drew) u01 (hno (by dsimp only;omega))
  have a10:=S6.cell (w:=w5.drew) u10 (hno (by dsimp only;omega))
  have a11:=S6.cell (w:=w5.drew) u11 (hno (by dsimp only;omega))
  have a12:=S6.cell (w:=w5.drew) u12 (hno (by dsimp only;omega))
  have a13:=S6.cell (w:=w5.drew) u13 (hno (by dsimp only;omega))
  have b0:=S6.cell (w:=w5.drew) t0 (hno hBw)
  have b1:=S6.cell (w:=w5.drew) t1 (hno hBw)
  have b2:=S6.cell (w:=w5.drew) t2 (hno hBw)
  have b3:=S6.cell (w:=w5.drew) t3 (hno hBw)
  have b4:=S6.cell (w:=w5.drew) t4 (hno hBw)
  have HL6:=hide L6
  have HS6:=hide (((Step.of_turn (τ:=τ) (own:=own) (T0.sT TX5 (fun _ _ h=>h))).trans (Step.of_turn (Turn.drew _ _))).trans S6)
  clear L6 S6 u00 u01 u10 u11 u12 u13 t0 t1 t2 t3 t4 y00 y01 y10 y11 y12 y13 z0 z1 z2 z3 z4 hS4
  have hnm:∀ {b:Nat},w.heap.size≤b→¬ Mine own τ b:=fun hb ⟨y,hy⟩=>by rw [uH htop _ hb] at hy;cases hy
  go_wp2
  have HS:∀ w',Turn (Mine own τ) w6 w'→Turn (Mine own τ) w6 w'∧w'.cell? ⟨w.heap.size,0,none⟩=some (.int .i64 (n:Int))∧w'.cell? ⟨w.heap.size,1,none⟩=some (.string k)∧w'.cell? ⟨w.heap.size+1,0,none⟩=some (.int .i64 child)∧w'.cell? ⟨w.heap.size+1,1,none⟩=some (.int .i64 serial)∧w'.cell? ⟨w.heap.size+1,2,none⟩=some (.int .i64 tag)∧w'.cell? ⟨w.heap.size+1,3,none⟩=some (.int .i64 cid)∧w'.cell? ⟨wq.heap.size,0,none⟩=some (.int .i64 ver)∧w'.cell? ⟨wq.heap.size,1,none⟩=some (.int .i64 pres)∧w'.cell? ⟨wq.heap.size,2,none⟩=some (.string val)∧w'.cell? ⟨wq.heap.size,3,none⟩=some (.int .i64 base)∧w'.cell? ⟨wq.heap.size,4,none⟩=some (.int .i64 since) :=
    fun w' T=>⟨T,T.cell a00 (hnm (by dsimp only;omega)),T.cell a01 (hnm (by dsimp only;omega)),T.cell a10 (hnm (by dsimp only;omega)),T.cell a11 (hnm (by dsimp only;omega)),T.cell a12 (hnm (by dsimp only;omega)),T.cell a13 (hnm (by dsimp only;omega)),T.cell b0 (hnm hBw),T.cell b1 (hnm hBw),T.cell b2 (hnm hBw),T.cell b3 (hnm hBw),T.cell b4 (hnm hBw)⟩
  go_region_held3 (fun w'=>Turn (Mine own τ) w6 w'∧w'.cell? ⟨w.heap.size,0,none⟩=some (.int .i64 (n:Int))∧w'.cell? ⟨w.heap.size,1,none⟩=some (.string k)∧w'.cell? ⟨w.heap.size+1,0,none⟩=some (.int .i64 child)∧w'.cell? ⟨w.heap.size+1,1,none⟩=some (.int .i64 serial)∧w'.cell? ⟨w.heap.size+1,2,none⟩=some (.int .i64 tag)∧w'.cell? ⟨w.heap.size+1,3,none⟩=some (.int .i64 cid)∧w'.cell? ⟨wq.heap.size,0,none⟩=some (.int .i64 ver)∧w'.cell? ⟨wq.heap.size,1,none⟩=some (.int .i64 pres)∧w'.cell? ⟨wq.heap.size,2,none⟩=some (.string val)∧w'.cell? ⟨wq.heap.size,3,none⟩=some (.int .i64 base)∧w'.cell? ⟨wq.heap.size,4,none⟩=some (.int .i64 since))
    ((go_split_ands;apply HS;first|exact TF|(repeat (first|(with_reducible first|assumption|exact Turn.refl _ _|apply Turn.sA|apply Turn.sD|refine tN ?_ (by assumption))|((with_reducible refine Turn.sS ?_ ?_);rotate_left;· first|exact Or.inr rfl|exact Or.inr (Or.inl rfl)|exact Or.inl (by simp <;> omega))|(with_reducible refine tG ?_ (by assumption))|(with_reducible first|apply There.drew|apply There.set|refine hNo ?_ (by assumption))|assumption))))
    (first
      | (go_at_call 66;go_split_ands;refine (uH KS _ ((uH HL6).turn (Turn.drew _ _))).mono ?_;rintro e w7 ⟨rfl,T7⟩)
      | (go_at_call 105;go_split_ands;refine (uH KT _ (((uH HL6).turn (Turn.drew _ _)).turn T7)).mono ?_;rintro e w8 ⟨rfl,own8,g8,L8,S8,GL8⟩;have TF:Turn (Mine own τ) w6 w8:=((Turn.drew _ _).sT (N:=nO) T7 (fun _ _ h=>False.elim h)).sT S8.turn (fun _ _ h=>h)))
  go_split_ands
  have HE:=hide (And.intro L8 (And.intro (((uH HS6).trans (Step.of_turn ((Turn.drew _ _).sT (N:=nO) T7 (fun _ _ h=>False.elim h)))).trans S8) GL8))
  clear L8 S8 GL8 TF HS
  go_wp2
  go_end0
  exact ⟨rfl,own8,g8,(uH HE).1,(uH HE).2.1,(uH HE).2.2⟩
 ·generalize hX:World.setCell _ _ _=X
  have TX:Turn nO W0 X:=by rw [← hX];assumption
  have z0:X.cell? ⟨w.heap.size+1+1,0,none⟩=some (.int .i64 ver):=by rw [← hX];simp [go_sem,TH.are 0 (by omega)]
  have z1:X.cell? ⟨w.heap.size+1+1,1,none⟩=some (.int .i64 pres):=by rw [← hX];simp [go_sem,TH.are 1 (by omega)]
  have z2:X.cell? ⟨w.heap.size+1+1,2,none⟩=some (.string val):=by rw [← hX];simp [go_sem,TH.are 2 (by omega)]
  have z3:X.cell? ⟨w.heap.size+1+1,3,none⟩=some (.int .i64 base):=by rw [← hX];simp [go_sem,TH.are 3 (by omega)]
  have z4:X.cell? ⟨w.heap.size+1+1,4,none⟩=some (.int .i64 since):=by rw [← hX];simp [go_sem,TH.are 4 (by omega)]
  clear hX TC
  have y00:=TX.cell x0_0 id
  have y01:=TX.cell x0_1 id
  have y10:=TX.cell x1_0 id
  have y11:=TX.cell x1_1 id
  have y12:=TX.cell x1_2 id
  have y13:=TX.cell x1_3 id
  have HLX:=hide ((uH HL).turn TX)
  go_wp2_with fail
  refine (uH KI X (uH HLX)).mono ?_
  rintro e w5 ⟨rfl,T5⟩
  have TX5:Turn nO W0 w5:=TX.sT T5 (fun _ _ h=>h)
  have u00:=TX5.cell x0_0 id
  have u01:=TX5.cell x0_1 id
  have u10:=TX5.cell x1_0 id
  have u11:=TX5.cell x1_1 id
  have u12:=TX5.cell x1_2 id
  have u13:=TX5.cell x1_3 id
  have t0:=T5.cell z0 id
  have t1:=T5.cell z1 id
  have t2:=T5.cell z2 id
  have t3:=T5.cell z3 id
  have t4:=T5.cell z4 id
  have hBw:w.heap.size≤w.heap.size+1+1:=by omega
  have hS4:Hid (∀ (w':World) (s':PS),Lies own τ w' bt g s'→w'.cell? ⟨w.heap.size,0,none⟩=some (.int .i64 (n:Int))→w'.cell? ⟨w.heap.size,1,none⟩=some (.string k)→w'.cell? ⟨bt,12,none⟩=some (.pointer (some ⟨g.be,0,none⟩))∧w'.cell? ⟨w.heap.size,0,none⟩=some (.int .i64 (n:Int))∧w'.cell? ⟨w.heap.size,1,none⟩=some (.string k)):=fun w' s' hl a b=>⟨cOf hl.tier.block 12,a,b⟩
  have hno:∀ {b:Nat},w.heap.size≤b→own b=none:=fun hb=>uH htop _ hb
  go_split_ands
  go_wp2
  go_region_held3 (fun w'=>w'.cell? ⟨bt,12,none⟩=some (.pointer (some ⟨g.be,0,none⟩))∧w'.cell? ⟨w.heap.size,0,none⟩=some (.int .i64 (n:Int))∧w'.cell? ⟨w.heap.size,1,none⟩=some (.string k))
    ((first|exact uH hS4 _ s ((uH HL).turn TX5.sD) u00 u01|exact uH hS4 _ _ L6 (S6.cell (w:=w5.drew) u00 (hno (Nat.le_refl _))) (S6.cell (w:=w5.drew) u01 (hno (Nat.le_refl _)))))
    (first|(go_at_call 104;refine (uH KU _ ((uH HL).turn TX5.sD)).mono ?_;rintro e w6 ⟨rfl,L6,S6⟩))
  go_split_ands
  have a00:=S6.cell (w:=w5.drew) u00 (hno (by dsimp only;omega))
  have a01:=S6.cell (w:=w5.drew) u01 (hno (by dsimp only;omega))
  have a10:=S6.cell (w:=w5.drew) u10 (hno (by dsimp only;omega))
  have a11:=S6.cell (w:=w5.drew) u11 (hno (by dsimp only;omega))
  have a12:=S6.cell (w:=w5.drew) u12 (hno (by dsimp only;omega))
  have a13:=S6.cell (w:=w5.drew) u13 (hno (by dsimp only;omega))
  have b0:=S6.cell (w:=w5.drew) t0 (hno hBw)
  have b1:=S6.cell (w:=w5.drew) t1 (hno hBw)
  have b2:=S6.cell (w:=w5.drew) t2 (hno hBw)
  have b3:=S6.cell (w:=w5.drew) t3 (hno hBw)
  have b4:=S6.cell (w:=w5.drew) t4 (hno hBw)
  have HL6:=hide L6
  have HS6:=hide (((Step.of_turn (τ:=τ) (own:=own) (T0.sT TX5 (fun _ _ h=>h))).trans (Step.of_turn (Turn.drew _ _))).trans S6)
  clear L6 S6 u00 u01 u10 u11 u12 u13 t0 t1 t2 t3 t4 y00 y01 y10 y11 y12 y13 z0 z1 z2 z3 z4 hS4
  have hnm:∀ {b:Nat},w.heap.size≤b→¬ Mine own τ b:=fun hb ⟨y,hy⟩=>by rw [uH htop _ hb] at hy;cases hy
  go_wp2
  have HS:∀ w',Turn (Mine own τ) w6 w'→Turn (Mine own τ) w6 w'∧w'.cell? ⟨w.heap.size,0,none⟩=some (.int .i64 (n:Int))∧w'.cell? ⟨w.heap.size,1,none⟩=some (.string k)∧w'.cell? ⟨w.heap.size+1,0,none⟩=some (.int .i64 child)∧w'.cell? ⟨w.heap.size+1,1,none⟩=some (.int .i64 serial)∧w'.cell? ⟨w.heap.size+1,2,none⟩=some (.int .i64 tag)∧w'.cell? ⟨w.heap.size+1,3,none⟩=some (.int .i64 cid)∧w'.cell? ⟨w.heap.size+1+1,0,none⟩=some (.int .i64 ver)∧w'.cell? ⟨w.heap.size+1+1,1,none⟩=some (.int .i64 pres)∧w'.cell? ⟨w.heap.size+1+1,2,none⟩=some (.string val)∧w'.cell? ⟨w.heap.size+1+1,3,none⟩=some (.int .i64 base)∧w'.cell? ⟨w.heap.size+1+1,4,none⟩=some (.int .i64 since) :=
    fun w' T=>⟨T,T.cell a00 (hnm (by dsimp only;omega)),T.cell a01 (hnm (by dsimp only;omega)),T.cell a10 (hnm (by dsimp only;omega)),T.cell a11 (hnm (by dsimp only;omega)),T.cell a12 (hnm (by dsimp only;omega)),T.cell a13 (hnm (by dsimp only;omega)),T.cell b0 (hnm hBw),T.cell b1 (hnm hBw),T.cell b2 (hnm hBw),T.cell b3 (hnm hBw),T.cell b4 (hnm hBw)⟩
  go_region_held3 (fun w'=>Turn (Mine own τ) w6 w'∧w'.cell? ⟨w.heap.size,0,none⟩=some (.int .i64 (n:Int))∧w'.cell? ⟨w.heap.size,1,none⟩=some (.string k)∧w'.cell? ⟨w.heap.size+1,0,none⟩=some (.int .i64 child)∧w'.cell? ⟨w.heap.size+1,1,none⟩=some (.int .i64 serial)∧w'.cell? ⟨w.heap.size+1,2,none⟩=some (.int .i64 tag)∧w'.cell? ⟨w.heap.size+1,3,none⟩=some (.int .i64 cid)∧w'.cell? ⟨w.heap.size+1+1,0,none⟩=some (.int .i64 ver)∧w'.cell? ⟨w.heap.size+1+1,1,none⟩=some (.int .i64 pres)∧w'.cell? ⟨w.heap.size+1+1,2,none⟩=some (.string val)∧w'.cell? ⟨w.heap.size+1+1,3,none⟩=some (.int .i64 base)∧w'.cell? ⟨w.heap.size+1+1,4,none⟩=some (.int .i64 since))
    ((go_split_ands;apply HS;first|exact TF|(repeat (first|(with_reducible first|assumption|exact Turn.refl _ _|apply Turn.sA|apply Turn.sD|refine tN ?_ (by assumption))|((with_reducible refine Turn.sS ?_ ?_);rotate_left;· first|exact Or.inr rfl|exact Or.inr (Or.inl rfl)|exact Or.inl (by simp <;> omega))|(with_reducible refine tG ?_ (by assumption))|(with_reducible first|apply There.drew|apply There.set|refine hNo ?_ (by assumption))|assumption))))
    (first
      | (go_at_call 66;go_split_ands;refine (uH KS _ ((uH HL6).turn (Turn.drew _ _))).mono ?_;rintro e w7 ⟨rfl,T7⟩)
      | (go_at_call 105;go_split_ands;refine (uH KT _ (((uH HL6).turn (Turn.drew _ _)).turn T7)).mono ?_;rintro e w8 ⟨rfl,own8,g8,L8,S8,GL8⟩;have TF:Turn (Mine own τ) w6 w8:=((Turn.drew _ _).sT (N:=nO) T7 (fun _ _ h=>False.elim h)).sT S8.turn (fun _ _ h=>h)))
  go_split_ands
  have HE:=hide (And.intro L8 (And.intro (((uH HS6).trans (Step.of_turn ((Turn.drew _ _).sT (N:=nO) T7 (fun _ _ h=>False.elim h)))).trans S8) GL8))
  clear L8 S8 GL8 TF HS
  go_wp2
  go_end0
  exact ⟨rfl,own8,g8,(uH HE).1,(uH HE).2.1,(uH HE).2.2⟩
end
end Go.Proofs.YtpdkojgepagbnaaGreatDoor
