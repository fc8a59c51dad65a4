/-
  The answers are handed out.
  Room for one more entry.
  The sizes of a tier are kept: by what only speaks, by use, by one who waits.
-/
import Derived.Test.YtpdkojgepagbnaaGreatDoorJ13
import Derived.Test.YtpdkojgepagbnaaGreatDoorJ12
namespace Go.Proofs.YtpdkojgepagbnaaGreatDoor
set_option maxRecDepth 100000
set_option maxHeartbeats 8000000
section
open Go.RowKit
open Tier (Mes Ans Conf)
attribute [local go_sem ↓] Go.wp_at_zero Go.wp_at_succ
theorem Lies.told {own:Own} {τ:Nat} {w:World} {bt:Nat} {g:Gh} {s:PS} (h:Lies own τ w bt g s) :
    ∃ own',Lies own' τ (w.setCell ⟨bt,16,none⟩ (.slice none 0 0)) bt { g with av:= .slice none 0 0 } { s with answers:=[] }∧Step τ own own' w (w.setCell ⟨bt,16,none⟩ (.slice none 0 0))∧Loose own' (w.setCell ⟨bt,16,none⟩ (.slice none 0 0)) 63 7 g.av (s.answers.map ansL):=by
 have hd:∀ {k' x},own k'=some (τ,x)→x≠15→dropO own (τ,15) k'=own k':=fun {k' x} ho hx=>by
   unfold dropO
   rw [if_neg]
   rw [ho]
   intro e
   cases e
   exact hx rfl
 have hblk:∀ k',k'≠bt→(w.setCell ⟨bt,16,none⟩ (.slice none 0 0)).heap[k']?=w.heap[k']?:=fun k' hk=>hSO hk
 have F:Fr (fun x=>x=1∨x=15) own (dropO own (τ,15)) τ w (w.setCell ⟨bt,16,none⟩ (.slice none 0 0)) :=
   ⟨fun k' hk x hx ho=>⟨hblk k' (fun e=>by rw [e,h.tierO] at ho;cases ho;exact hx (Or.inl rfl)),hd ho (fun e=>hx (Or.inr e))⟩⟩
 refine ⟨dropO own (τ,15),⟨?_,⟨?_⟩,?_,F.row h.pars (by omega),F.block h.origO (by omega) h.orig,F.own h.origO (by omega) (heap_lt h.orig),F.map h.recsO (by omega) h.recs,F.own h.recsO (by omega) h.recs.lt,F.block h.entsO (by omega) h.ents,F.own h.entsO (by omega) (heap_lt h.ents),F.map h.foundO (by omega) h.found,F.own h.foundO (by omega) h.found.lt,
   fun i hi=>F.row (h.used i hi) (by omega),F.map h.ftsO (by omega) h.fts,F.own h.ftsO (by omega) h.fts.lt,fun p hp=>F.row (h.waits p hp) (by omega),F.row h.net (by omega),?_⟩,⟨(Turn.refl _ _).sS (Or.inr ⟨1,h.tierO⟩),fun k' hk=>?_⟩,?_⟩
 ·intro k' hk
  have:=h.top k' (by simpa using hk)
  unfold dropO
  rw [this]
  rfl
 ·rw [heap_set h.tier.block];rfl
 ·rw [hd h.tierO (by omega)];exact h.tierO
 ·exact ⟨World.ownsRow_nil _ _ _ _,fun k' hk=>by cases hk⟩
 ·by_cases e:own k'=some (τ,15)
  ·exact Or.inr ⟨⟨_,e⟩,Or.inl (by unfold dropO;rw [if_pos e])⟩
  ·exact Or.inl (by unfold dropO;rw [if_neg e])
 ·have hr:=h.ans
  obtain ⟨⟨hl,hv⟩,hmn⟩:=hr
  refine ⟨⟨hl,?_⟩,fun k' hk=>by unfold dropO;rw [if_pos (hmn k' hk)]⟩
  rcases hv with hv|⟨gb,cap,cur,hv,hb,hgb,r⟩
  ·exact Or.inl hv
  ·refine Or.inr ⟨gb,cap,cur,hv,hb,(hblk gb (fun e=>?_)).trans hgb,r⟩
   have:=hmn gb (by rw [hv];rfl)
   rw [e,h.tierO] at this
   cases this
theorem Answers_any (own:Own) (τ bt:Nat) (g:Gh) (s:PS) (w:World) (h:Lies own τ w bt g s) :
    Calls Tryz.prog 33 #[.pointer (some ⟨bt,0,none⟩)] w fun r w'=>r= .returned g.av∧∃ own' g',Lies own' τ w' bt g' { s with answers:=[] }∧Step τ own own' w w'∧g.Like g'∧Loose own' w' 63 7 g.av (s.answers.map ansL):=by
 obtain ⟨a,c,hv⟩:=row_form h.ans.row
 have d16:w.cell? ⟨bt,16,none⟩=some g.av:=cOf h.tier.block 16
 have e16:w.frozen? ⟨bt,16,none⟩=false:=fOf h.tier.block 16
 have HT:=hide h.told
 clear h
 rw [hv] at d16 HT ⊢
 generalize (s.answers.map ansL).length=al at *
 go_enter Tryz.func33,Tryz.ntmps33
 go_wp2
 go_ret
 obtain ⟨own',L,S,R⟩:=uH HT
 exact ⟨rfl,own',_,L,S,⟨rfl,rfl,rfl,rfl,rfl,rfl⟩,R⟩
theorem Lies.ticked {own:Own} {τ:Nat} {w:World} {bt:Nat} {g:Gh} {s:PS} (h:Lies own τ w bt g s) {n:Nat} (hn:n<6) (c:Int) :
    Lies own τ (w.setCell ⟨bt,6+n,none⟩ (.int .i64 c)) bt g { s with clk:=fun m=>if m=n then c else s.clk m }∧Step τ own own w (w.setCell ⟨bt,6+n,none⟩ (.int .i64 c)):=by
 have hblk:∀ k',k'≠bt→(w.setCell ⟨bt,6+n,none⟩ (.int .i64 c)).heap[k']?=w.heap[k']?:=fun k' hk=>hSO hk
 have F:Fr (fun x=>x=1) own own τ w (w.setCell ⟨bt,6+n,none⟩ (.int .i64 c)):=⟨fun k' hk x hx ho=>⟨hblk k' (fun e=>by rw [e,h.tierO] at ho;cases ho;exact hx rfl),rfl⟩⟩
 refine ⟨⟨fun k' hk=>h.top k' (by simpa using hk),⟨?_⟩,h.tierO,F.row h.pars (by omega),F.block h.origO (by omega) h.orig,h.origO,F.map h.recsO (by omega) h.recs,h.recsO,F.block h.entsO (by omega) h.ents,h.entsO,F.map h.foundO (by omega) h.found,h.foundO,fun i hi=>F.row (h.used i hi) (by omega),F.map h.ftsO (by omega) h.fts,h.ftsO,fun p hp=>F.row (h.waits p hp) (by omega),F.row h.net (by omega),F.row h.ans (by omega)⟩,⟨(Turn.refl _ _).sS (Or.inr ⟨1,h.tierO⟩),fun _ _=>Or.inl rfl⟩⟩
 rw [heap_set h.tier.block]
 match n,hn with
 | 0,_=>rfl
 | 1,_=>rfl
 | 2,_=>rfl
 | 3,_=>rfl
 | 4,_=>rfl
 | 5,_=>rfl
end
section
open Go.RowKit
open Tier (Mes Ans Conf)
theorem Gh.like_setU (g:Gh) (n:Nat) (v:Value):g.Like (setU g n v):=⟨rfl,rfl,rfl,rfl,rfl,rfl⟩
theorem makeRoom_any (own:Own) (τ bt:Nat) (g:Gh) (s:PS) (n:Nat) (w:World) (h:Lies own τ w bt g s) (hn:n<6) (he:0<s.c.entries) (hul:(s.used n).length≤1000) (hks:∀ k∈s.used n,k.size≤100) :
    Calls Tryz.prog 132 #[.pointer (some ⟨g.be,0,none⟩),.int .i64 (n:Int)] w fun r w'=>r= .returned (.tuple #[])∧∃ g',Lies own τ w' bt g' (s.makeRoom n)∧Step τ own own w w'∧g.Like g':=by
 by_cases hl:((s.used n).length:Int)<s.c.entries
 ·refine (makeRoom_room own τ bt g s n w h hn hl).mono ?_
  rintro r w' ⟨rfl,rfl⟩
  refine ⟨rfl,g,?_,Step.refl _ _ _,Gh.Like.refl g⟩
  unfold PS.makeRoom
  rw [if_pos hl]
  exact h
 ·obtain ⟨m,hm⟩:∃ m,(s.used n).length=m+1:=⟨(s.used n).length - 1,by omega⟩
  have hne:s.used n≠[]:=fun e=>by rw [e] at hm;cases hm
  have hk:(s.used n)[m]?=some ((s.used n).getLastD none8):=by
    rw [List.getLastD_eq_getLast?,List.getLast?_eq_getElem?,hm,Nat.add_sub_cancel,List.getElem?_eq_getElem (by omega)]
    rfl
  refine (makeRoom_full own τ bt g s n m _ w h hn hm (by omega) hk (hks _ (List.mem_of_getElem? hk)) hl).mono ?_
  rintro r w' ⟨rfl,v,L,S⟩
  refine ⟨rfl,setU g n v,?_,S,Gh.like_setU g n v⟩
  unfold PS.makeRoom
  rw [if_neg hl,List.dropLast_eq_take,hm,Nat.add_sub_cancel]
  exact L
theorem PS.makeRoom_used (s:PS) (n m:Nat):((s.makeRoom n).used m).length≤(s.used m).length:=by
  unfold PS.makeRoom
  split
  ·exact Nat.le_refl _
  ·show (if m=n then (s.used n).dropLast else s.used m).length≤_
   split
   ·subst_vars;simp
   ·exact Nat.le_refl _
end
section
open Tier (Mes Ans Conf)
theorem useL_length (k:ByteArray) (l:List ByteArray):(useL k l).length=l.length:=by
  unfold useL
  rcases placeOf_cases k l 0 with e|⟨i,hi,e,_⟩
  ·rw [if_pos e]
  ·rw [if_neg (by rw [e];omega),e]
   simp
   omega
theorem PS.use_length (s:PS) (n m:Nat) (k:ByteArray):((s.use n k).used m).length=(s.used m).length:=by
  show (if m=n then useL k (s.used n) else s.used m).length=_
  split
  ·subst_vars;exact useL_length _ _
  ·rfl
theorem of_aput {κ ε:Type} [DecidableEq κ] {l:List (κ × ε)} {k:κ} {e:ε} {p:κ × ε} (h:p∈aput l k e):p=(k,e)∨p∈l:=by
  induction l with
  | nil=>simpa [aput] using h
  | cons q r ih =>
    unfold aput at h
    split at h
    ·rcases List.mem_cons.1 h with h|h
     ·exact Or.inl h
     ·exact Or.inr (List.mem_cons_of_mem _ h)
    ·rcases List.mem_cons.1 h with h|h
     ·exact Or.inr (h ▸ List.mem_cons_self)
     ·exact (ih h).imp id (List.mem_cons_of_mem _)
theorem adel_sub {κ ε:Type} [DecidableEq κ] (l:List (κ × ε)) (k:κ):(adel l k).Sublist l:=by
  induction l with
  | nil=>exact List.Sublist.refl _
  | cons q r ih =>
    unfold adel
    split
    ·exact List.sublist_cons_self _ _
    ·exact ih.cons_cons q
theorem aput_length {κ ε:Type} [DecidableEq κ] (l:List (κ × ε)) (k:κ) (e:ε):(aput l k e).length≤l.length+1:=by
  induction l with
  | nil=>simp [aput]
  | cons q r ih =>
    unfold aput
    split
    ·simp
    ·simp only [List.length_cons];omega
theorem adel_length {κ ε:Type} [DecidableEq κ] (l:List (κ × ε)) (k:κ):(adel l k).length≤l.length:=by
  induction l with
  | nil=>simp [adel]
  | cons q r ih =>
    unfold adel
    split
    ·simp
    ·simp only [List.length_cons];omega
theorem aput_apart {κ ε:Type} [DecidableEq κ] (f:ε→Int) {k:κ} {e:ε}:∀ {l:List (κ × ε)},l.Pairwise (fun p q=>f p.2≠f q.2)→(∀ p∈l,f p.2≠f e)→(aput l k e).Pairwise (fun p q=>f p.2≠f q.2)
  | [],_,_=>List.pairwise_singleton _ _
  | q :: r,h,hn=>by
    obtain ⟨h1,h2⟩:=List.pairwise_cons.1 h
    unfold aput
    split
    ·exact List.pairwise_cons.2 ⟨fun p hp=>(hn p (List.mem_cons_of_mem _ hp)).symm,h2⟩
    ·refine List.pairwise_cons.2 ⟨fun p hp=>?_,aput_apart f h2 (fun p hp=>hn p (List.mem_cons_of_mem _ hp))⟩
     rcases of_aput hp with e|e
     ·subst e;exact hn q List.mem_cons_self
     ·exact h1 p e
theorem aput_map {κ ε:Type} [DecidableEq κ] (f:ε→Int) {k:κ} {o e:ε} (hf:f e=f o):∀ {l:List (κ × ε)},aget l k=some o→(aput l k e).map (fun p=>f p.2)=l.map (fun p=>f p.2)
  | [],h=>by rw [aget_nil] at h;cases h
  | q :: r,h=>by
    rw [aget_cons] at h
    unfold aput
    split
    ·rename_i hq
     rw [if_pos hq] at h
     cases h
     simp [hf]
    ·rename_i hq
     rw [if_neg hq] at h
     simp only [List.map_cons,aput_map f hf h]
theorem aput_len_old {κ ε:Type} [DecidableEq κ] {k:κ} {o e:ε}:∀ {l:List (κ × ε)},aget l k=some o→(aput l k e).length=l.length
  | [],h=>by rw [aget_nil] at h;cases h
  | q :: r,h=>by
    rw [aget_cons] at h
    unfold aput
    split
    ·simp
    ·rename_i hq
     rw [if_neg hq] at h
     simp only [List.length_cons,aput_len_old h]
theorem PS.Fine.makeRoom {s:PS} (h:s.Fine) (n:Nat):(s.makeRoom n).Fine:=by
  unfold PS.makeRoom
  split
  ·exact h
  ·exact ⟨fun g=>⟨(h.ts g).d0,(h.ts g).d1,(h.ts g).c0,(h.ts g).c1⟩,fun p hp=>h.ents p ((adel_sub _ _).subset hp),h.fts,h.apart,⟨Nat.le_trans (adel_sub _ _).length_le h.few.1,h.few.2⟩,h.small⟩
end
end Go.Proofs.YtpdkojgepagbnaaGreatDoor
