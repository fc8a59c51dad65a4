/-
  An entry as others see it.
  A tier of the program in memory: which block is whose, what it says as plain data, what a call leaves alone.
  An origin and room for entries are made.
  What stays of a tier while a part of it is written: the net, the answers.
-/
import Derived.Test.YtpdkojgepagbnaaGreatDoorJ05
import Derived.Test.YtpdkojgepagbnaaGreatDoorJ01
namespace Go.Proofs.YtpdkojgepagbnaaGreatDoor
set_option maxRecDepth 100000
set_option maxHeartbeats 8000000
section
open Go.RowKit
structure See where
  key:ByteArray
  ver:Int
  pres:Int
  val:ByteArray
  age:Int
def seeV (e:See):Value:= .agg #[.string e.key,.int .i64 e.ver,.int .i64 e.pres,.string e.val,.int .i64 e.age]
def seen (k:ByteArray) (e:Ent) (a:Int):See:=⟨k,e.ver,e.pres,e.val,a⟩
theorem shown_any (bt:Nat) (t:TS) (n:Nat) (k:ByteArray) (e:Ent) (w:World) (hT:TierIs w bt t) (hf:t.Fine) (hn:n<6) (he:e.Fine (t.clk n)) :
    Calls Tryz.prog 66 #[.pointer (some ⟨bt,0,none⟩),placeV (n,k),entV e] w fun r w'=>r= .returned (seeV (seen k e (ageAt t.drift (t.clk n) e)))∧Turn nO w w':=by
 have KC:=hide (fun w (hT:Hid (TierIs w bt t))=>age_any bt t n e w hT hf hn he)
 generalize ageAt t.drift (t.clk n) e=x at *
 clear he
 obtain ⟨ver,pres,val,base,since⟩:=e
 unfold entV placeV seeV seen at *
 dsimp only at *
 have HT:=hide hT
 clear hf hT
 go_enter Tryz.func66,Tryz.ntmps66
 go_wp2
 generalize hW:World.alloc _ _=W0
 have T0:Turn nO w W0:=by rw [← hW];exact (Turn.alloc _ _ _).sA.sA
 have hsz:W0.heap.size=w.heap.size+1+1+1:=by rw [← hW];simp
 have x0:∃ ty,W0.heap[w.heap.size]?=some (.cells #[.int .i64 (n:Int),.string k] ty (0,0)):=by rw [← hW];exact ⟨_,new3_0 _ _ _ _⟩
 obtain ⟨x0_0,x0_1⟩:=eC2 x0
 have x1:∃ ty,W0.heap[w.heap.size+1]?=some (.cells #[.int .i64 ver,.int .i64 pres,.string val,.int .i64 base,.int .i64 since] ty (0,0)):=by rw [← hW];exact ⟨_,new3_1 _ _ _ _⟩
 obtain ⟨x1_0,x1_1,x1_2,x1_3,x1_4⟩:=eC5 x1
 have HT0:=hide ((uH HT).turn T0 id)
 have hR:There W0 (w.heap.size+1+1) 5:=by rw [← hW];exact There.new (by simp) (by simp)
 have hbt:bt<w.heap.size:=(uH HT).lt
 clear hW
 have HS:=fun w' (T:Turn (fun k=>k=w.heap.size+1+1) W0 w') (R:There w' (w.heap.size+1+1) 5)=>And.intro T (And.intro (show Hid (There w' (w.heap.size+1+1) 5) from R) (And.intro (show w'.cell? ⟨w.heap.size+1+1,0,none⟩=some (peek w' ⟨w.heap.size+1+1,0,none⟩) from peek_some (R.are 0 (by omega))) (And.intro (show w'.frozen? ⟨w.heap.size+1+1,0,none⟩=false from R.free 0) (And.intro (show w'.cell? ⟨w.heap.size+1+1,1,none⟩=some (peek w' ⟨w.heap.size+1+1,1,none⟩) from peek_some (R.are 1 (by omega))) (And.intro (show w'.frozen? ⟨w.heap.size+1+1,1,none⟩=false from R.free 1) (And.intro (show w'.cell? ⟨w.heap.size+1+1,2,none⟩=some (peek w' ⟨w.heap.size+1+1,2,none⟩) from peek_some (R.are 2 (by omega))) (And.intro (show w'.frozen? ⟨w.heap.size+1+1,2,none⟩=false from R.free 2) (And.intro (show w'.cell? ⟨w.heap.size+1+1,3,none⟩=some (peek w' ⟨w.heap.size+1+1,3,none⟩) from peek_some (R.are 3 (by omega))) (And.intro (show w'.frozen? ⟨w.heap.size+1+1,3,none⟩=false from R.free 3) (And.intro (show w'.cell? ⟨w.heap.size+1+1,4,none⟩=some (peek w' ⟨w.heap.size+1+1,4,none⟩) from peek_some (R.are 4 (by omega))) (And.intro (show w'.frozen? ⟨w.heap.size+1+1,4,none⟩=false from R.free 4) (And.intro (T.cell x0_0 (Nat.ne_of_lt (by dsimp only;omega))) (And.intro (T.cell x0_1 (Nat.ne_of_lt (by dsimp only;omega))) (And.intro (T.cell x1_0 (Nat.ne_of_lt (by dsimp only;omega))) (And.intro (T.cell x1_1 (Nat.ne_of_lt (by dsimp only;omega))) (And.intro (T.cell x1_2 (Nat.ne_of_lt (by dsimp only;omega))) (And.intro (T.cell x1_3 (Nat.ne_of_lt (by dsimp only;omega))) (And.intro (T.cell x1_4 (Nat.ne_of_lt (by dsimp only;omega))) ((show Hid (TierIs w' bt t) from ((uH HT0).turn T (Nat.ne_of_lt (by omega)))))))))))))))))))))))
 go_region_held3 (fun w'=>Turn (fun k=>k=w.heap.size+1+1) W0 w'∧Hid (There w' (w.heap.size+1+1) 5)∧w'.cell? ⟨w.heap.size+1+1,0,none⟩=some (peek w' ⟨w.heap.size+1+1,0,none⟩)∧w'.frozen? ⟨w.heap.size+1+1,0,none⟩=false∧w'.cell? ⟨w.heap.size+1+1,1,none⟩=some (peek w' ⟨w.heap.size+1+1,1,none⟩)∧w'.frozen? ⟨w.heap.size+1+1,1,none⟩=false∧w'.cell? ⟨w.heap.size+1+1,2,none⟩=some (peek w' ⟨w.heap.size+1+1,2,none⟩)∧w'.frozen? ⟨w.heap.size+1+1,2,none⟩=false∧w'.cell? ⟨w.heap.size+1+1,3,none⟩=some (peek w' ⟨w.heap.size+1+1,3,none⟩)∧w'.frozen? ⟨w.heap.size+1+1,3,none⟩=false∧w'.cell? ⟨w.heap.size+1+1,4,none⟩=some (peek w' ⟨w.heap.size+1+1,4,none⟩)∧w'.frozen? ⟨w.heap.size+1+1,4,none⟩=false∧w'.cell? ⟨w.heap.size,0,none⟩=some (.int .i64 (n:Int))∧w'.cell? ⟨w.heap.size,1,none⟩=some (.string k)∧w'.cell? ⟨w.heap.size+1,0,none⟩=some (.int .i64 ver)∧w'.cell? ⟨w.heap.size+1,1,none⟩=some (.int .i64 pres)∧w'.cell? ⟨w.heap.size+1,2,none⟩=some (.string val)∧w'.cell? ⟨w.heap.size+1,3,none⟩=some (.int .i64 base)∧w'.cell? ⟨w.heap.size+1,4,none⟩=some (.int .i64 since)∧(Hid (TierIs w' bt t))) ((go_split_ands;apply HS;all_goals (repeat (first|(with_reducible first|assumption|exact Turn.refl _ _|apply Turn.sA|apply Turn.sD|refine tN ?_ (by assumption))|((with_reducible refine Turn.sS ?_ ?_);rotate_left;· first|exact Or.inr rfl|exact Or.inr (Or.inl rfl)|exact Or.inl (by simp <;> omega))|(with_reducible refine tG ?_ (by assumption))|(with_reducible first|apply There.drew|apply There.set|refine hNo ?_ (by assumption))|assumption)))) (first|(go_at_call 98;go_split_ands;refine (uH KC _ (by assumption)).mono ?_;rintro e w' ⟨rfl,TC⟩))
 have hR1:=hR.drew.turn TC id
 have z0:=hR1.are 0 (by omega)
 have z1:=hR1.are 1 (by omega)
 have z2:=hR1.are 2 (by omega)
 have z3:=hR1.are 3 (by omega)
 have z4:=hR1.are 4 (by omega)
 rename_i hHeld
 clear hHeld
 go_wp2
 exact bodyPost_ret (v:= .agg #[.string k,.int .i64 ver,.int .i64 pres,.string val,.int .i64 x]) (by simp [results,Tryz.results66,go_sem,z0,z1,z2,z3,z4]) rfl ⟨rfl,by (repeat (first|(with_reducible first|assumption|exact Turn.refl _ _|apply Turn.sA|apply Turn.sD|refine tN ?_ (by assumption))|((with_reducible refine Turn.sS ?_ ?_);rotate_left;· first|exact Or.inr rfl|exact Or.inr (Or.inl rfl)|exact Or.inl (by simp <;> omega))|(with_reducible refine tG ?_ (by assumption))|(with_reducible first|apply There.drew|apply There.set|refine hNo ?_ (by assumption))|assumption))⟩
end
section
open Go.RowKit
open Tier (Mes Ans Conf)
def mesL (m:Mes):List Value:=[.int .i64 m.kind,.int .i64 m.frm,.int .i64 m.to,.string m.key,.int .i64 m.serial,.int .i64 m.ver,.int .i64 m.age,.int .i64 m.pres,.string m.val]
def ansL (a:Ans):List Value:=[.int .i64 a.node,.int .i64 a.id,.int .i64 a.kind,.int .i64 a.ver,.int .i64 a.pres,.string a.val,.int .i64 a.age]
structure Wt where
  child:Int
  serial:Int
  tag:Int
  id:Int
def wtL (x:Wt):List Value:=[.int .i64 x.child,.int .i64 x.serial,.int .i64 x.tag,.int .i64 x.id]
structure Ft where
  serial:Int
  sent:Int
  l:List Wt
  v:Value
def ftV (f:Ft):Value:= .agg #[.int .i64 f.serial,.int .i64 f.sent,f.v]
structure Rec where
  ver:Int
  pres:Int
  val:ByteArray
def recV (r:Rec):Value:= .agg #[.int .i64 r.ver,.int .i64 r.pres,.string r.val]
structure PS where
  c:Conf
  recs:List (ByteArray × Rec)
  clk:Nat→Int
  found:List ((Nat × ByteArray) × Ent)
  used:Nat→List ByteArray
  fts:List ((Nat × ByteArray) × Ft)
  serial:Int
  net:List Mes
  answers:List Ans
abbrev Own:=Nat→Option (Nat × Nat)
def Mine (own:Own) (τ:Nat) (k:Nat):Prop:=∃ x,own k=some (τ,x)
structure Step (τ:Nat) (own own':Own) (w w':World):Prop where
  turn:Turn (Mine own τ) w w'
  same:∀ k,k<w.heap.size→own' k=own k∨(Mine own τ k∧(own' k=none∨Mine own' τ k))
theorem Step.refl (τ:Nat) (own:Own) (w:World):Step τ own own w w:=⟨Turn.refl _ _,fun _ _=>Or.inl rfl⟩
theorem Step.trans {τ:Nat} {o o1 o2:Own} {a b c:World} (h:Step τ o o1 a b) (g:Step τ o1 o2 b c):Step τ o o2 a c :=
  ⟨h.turn.trans g.turn (fun k hk ⟨x,hx⟩=>by
      rcases h.same k hk with e|⟨hm,_⟩
      ·exact ⟨x,by rw [← e];exact hx⟩
      ·exact hm),fun k hk=>by
   rcases g.same k (Nat.lt_of_lt_of_le hk h.turn.size) with e|⟨hm,e⟩
   ·rcases h.same k hk with e'|⟨hm',e'⟩
    ·exact Or.inl (e.trans e')
    ·exact Or.inr ⟨hm',e'.imp (fun e'=>e.trans e') (fun ⟨x,hx⟩=>⟨x,e.trans hx⟩)⟩
   ·rcases h.same k hk with e'|⟨hm',_⟩
    ·exact Or.inr ⟨by obtain ⟨x,hx⟩:=hm;exact ⟨x,by rw [← e'];exact hx⟩,e⟩
    ·exact Or.inr ⟨hm',e⟩⟩
theorem Step.free {τ:Nat} {own own':Own} {a b:World} (h:Step τ own own' a b) {k:Nat} (hk:k<a.heap.size) (ho:own k=none):own' k=none:=by
  rcases h.same k hk with e|⟨⟨x,hx⟩,_⟩
  ·rw [e];exact ho
  ·rw [ho] at hx;cases hx
theorem Step.of_turn {τ:Nat} {own:Own} {a b:World} (h:Turn nO a b):Step τ own own a b:=⟨h.mono (fun _ _ h=>h.elim),fun _ _=>Or.inl rfl⟩
theorem Step.cell {τ:Nat} {o o':Own} {w w':World} (h:Step τ o o' w w') {a:Addr} {v:Value} (hc:w.cell? a=some v) (hm:o a.block=none):w'.cell? a=some v :=
  h.turn.cell hc (fun ⟨x,hx⟩=>by rw [hm] at hx;cases hx)
structure Row (own:Own) (τ x:Nat) (w:World) (e size:Nat) (v:Value) (l:List (List Value)):Prop where
  row:w.ownsRow 0 e size v l.length l.flatten
  mine:∀ k,v.ownBlock=some k→own k=some (τ,x)
theorem Row.lt {own:Own} {τ x e size:Nat} {w:World} {v:Value} {l:List (List Value)} (h:Row own τ x w e size v l) {k:Nat} (hk:v.ownBlock=some k):k<w.heap.size:=(h.row.lt k hk).2
theorem Row.frame {own own':Own} {τ x e size:Nat} {w w':World} {v:Value} {l:List (List Value)} (h:Row own τ x w e size v l) (hf:∀ k,k<w.heap.size→own k=some (τ,x)→w'.heap[k]?=w.heap[k]?∧own' k=own k):Row own' τ x w' e size v l:=by
  have hlt:=h.row.lt
  obtain ⟨⟨hl,hv⟩,hm⟩:=h
  refine ⟨⟨hl,?_⟩,fun k hk=>?_⟩
  ·rcases hv with hv|⟨g,cap,cur,rfl,hb,hg,r⟩
   ·exact Or.inl hv
   ·exact Or.inr ⟨g,cap,cur,rfl,hb,(hf g (hlt g rfl).2 (hm g rfl)).1.trans hg,r⟩
  ·rw [(hf k (hlt k hk).2 (hm k hk)).2];exact hm k hk
structure Gh where
  pv:Value
  bo:Nat
  bm:Nat
  be:Nat
  bf:Nat
  bq:Nat
  u:Nat→Value
  nv:Value
  av:Value
structure Gh.Like (g g':Gh):Prop where
  pv:g'.pv=g.pv
  bo:g'.bo=g.bo
  bm:g'.bm=g.bm
  be:g'.be=g.be
  bf:g'.bf=g.bf
  bq:g'.bq=g.bq
theorem Gh.Like.refl (g:Gh):g.Like g:=⟨rfl,rfl,rfl,rfl,rfl,rfl⟩
theorem Gh.Like.trans {a b c:Gh} (h:a.Like b) (k:b.Like c):a.Like c:=⟨k.pv.trans h.pv,k.bo.trans h.bo,k.bm.trans h.bm,k.be.trans h.be,k.bf.trans h.bf,k.bq.trans h.bq⟩
def PS.ts (s:PS) (g:Gh):TS:=⟨g.pv,s.c.drift,s.c.budget,s.c.entries,s.c.waiters,g.bo,s.clk,g.be,g.bq,s.serial,g.nv,g.av⟩
def entsC (s:PS) (g:Gh):Array Value:=#[.int .i64 s.c.entries,.map (some g.bf),g.u 0,g.u 1,g.u 2,g.u 3,g.u 4,g.u 5]
structure Lies (own:Own) (τ:Nat) (w:World) (bt:Nat) (g:Gh) (s:PS):Prop where
  top:∀ k,w.heap.size≤k→own k=none
  tier:TierIs w bt (s.ts g)
  tierO:own bt=some (τ,1)
  pars:Row own τ 2 w 3 1 g.pv (s.c.parents.map fun n=>[.int .i64 n])
  orig:w.heap[g.bo]?=some (.cells #[.map (some g.bm)] 111 (0,0))
  origO:own g.bo=some (τ,3)
  recs:MapIs Tryz.prog 9 w g.bm (rawL .string recV s.recs)
  recsO:own g.bm=some (τ,4)
  ents:w.heap[g.be]?=some (.cells (entsC s g) 116 (0,0))
  entsO:own g.be=some (τ,5)
  found:MapIs Tryz.prog 124 w g.bf (rawL placeV entV s.found)
  foundO:own g.bf=some (τ,6)
  used:∀ i,i<6→Row own τ (7+i) w 9 1 (g.u i) ((s.used i).map fun k=>[.string k])
  fts:MapIs Tryz.prog 124 w g.bq (rawL placeV ftV s.fts)
  ftsO:own g.bq=some (τ,13)
  waits:∀ p∈s.fts,Row own τ (16+p.2.serial.toNat) w 146 4 p.2.v (p.2.l.map wtL)
  net:Row own τ 14 w 37 9 g.nv (s.net.map mesL)
  ans:Row own τ 15 w 63 7 g.av (s.answers.map ansL)
theorem Lies.frame {own own':Own} {τ:Nat} {w w':World} {bt:Nat} {g:Gh} {s:PS} (h:Lies own τ w bt g s) (hf:∀ k,k<w.heap.size→Mine own τ k→w'.heap[k]?=w.heap[k]?∧own' k=own k) (ht:∀ k,w'.heap.size≤k→own' k=none):Lies own' τ w' bt g s:=by
  have hR:∀ {x e size:Nat} {v:Value} {l:List (List Value)},Row own τ x w e size v l→Row own' τ x w' e size v l:=fun hr=>hr.frame (fun k hk hx=>hf k hk ⟨_,hx⟩)
  have hB:∀ {k x:Nat} {o:Obj},own k=some (τ,x)→w.heap[k]?=some o→w'.heap[k]?=some o:=fun hx hk=>(hf _ (heap_lt hk) ⟨_,hx⟩).1.trans hk
  have hO:∀ {k x:Nat},own k=some (τ,x)→own' k=some (τ,x):=fun {k x} hx=>by
    by_cases hk:k<w.heap.size
    ·rw [(hf k hk ⟨_,hx⟩).2];exact hx
    ·rw [h.top k (by omega)] at hx;cases hx
  have hM:∀ {k x ty:Nat} {l:List (Value × Value)},own k=some (τ,x)→MapIs Tryz.prog ty w k l→MapIs Tryz.prog ty w' k l:=fun hx hm=>hm.heap (hf _ hm.lt ⟨_,hx⟩).1
  exact ⟨ht,⟨hB h.tierO h.tier.block⟩,hO h.tierO,hR h.pars,hB h.origO h.orig,hO h.origO,hM h.recsO h.recs,hO h.recsO,hB h.entsO h.ents,hO h.entsO,hM h.foundO h.found,hO h.foundO,fun i hi=>hR (h.used i hi),hM h.ftsO h.fts,hO h.ftsO,fun p hp=>hR (h.waits p hp),hR h.net,hR h.ans⟩
theorem Lies.turn {own:Own} {τ:Nat} {w w':World} {bt:Nat} {g:Gh} {s:PS} (h:Lies own τ w bt g s) (T:Turn nO w w'):Lies own τ w' bt g s :=
  h.frame (fun k hk _=>⟨T.block k hk id,rfl⟩) (fun k hk=>h.top k (Nat.le_trans T.size hk))
structure PS.Fine (s:PS):Prop where
  ts:∀ g,(s.ts g).Fine
  ents:∀ p∈s.found,p.2.Fine (s.clk p.1.1)∧p.1.1<6∧p.1.2.size≤4
  fts:∀ p∈s.fts,p.1.1<6∧p.1.2.size≤4∧0<p.2.serial∧p.2.serial≤s.serial∧0≤p.2.sent∧p.2.sent≤s.clk p.1.1∧p.2.l.length≤100
  apart:s.fts.Pairwise (fun p q=>p.2.serial≠q.2.serial)
  few:s.found.length≤1000000000000∧s.fts.length≤1000000000000
  small:0≤s.serial∧s.serial≤1000000000000∧s.net.length≤1000000000000∧s.answers.length≤1000000000000
end
section
open Go.RowKit
open Tier (Mes Ans Conf)
attribute [local go_sem ↓] Go.wp_at_zero Go.wp_at_succ
theorem run_makeMap1 (w:World):(Instr.makeMap 109 none).run Tryz.prog w= .ok (.map (some w.heap.size)) (w.alloc (.map #[] 0)):=by kernel_rfl
theorem run_makeMap2 (w:World):(Instr.makeMap 112 none).run Tryz.prog w= .ok (.map (some w.heap.size)) (w.alloc (.map #[] 0)):=by kernel_rfl
theorem ONew_any (w:World):Calls Tryz.prog 24 #[] w fun r w'=>∃ bo bm,r= .returned (.pointer (some ⟨bo,0,none⟩))∧Turn nO w w'∧(w.heap.size≤bo∧w.heap.size≤bm∧bo≠bm∧bo<w'.heap.size∧bm<w'.heap.size)∧w'.heap[bo]?=some (.cells #[.map (some bm)] 111 (0,0))∧MapIs Tryz.prog 9 w' bm []:=by
  have hmk:=run_makeMap1
  go_enter Tryz.func24,Tryz.ntmps24
  go_wp2
  go_ret
  exact ⟨_,_,rfl,(Turn.alloc _ _ _).sA,(by simp;omega),new2_1 w _ _,(MapIs.made Tryz.prog 9 w).heap ((Turn.alloc nO _ _).block _ (by simp) id)⟩
theorem ENew_any (m:Int) (w:World):Calls Tryz.prog 25 #[.int .i64 m] w fun r w'=>∃ be bf,r= .returned (.pointer (some ⟨be,0,none⟩))∧Turn nO w w'∧(w.heap.size≤be∧w.heap.size≤bf∧be≠bf∧be<w'.heap.size∧bf<w'.heap.size)∧w'.heap[be]?=some (.cells #[.int .i64 m,.map (some bf),.slice none 0 0,.slice none 0 0,.slice none 0 0,.slice none 0 0,.slice none 0 0,.slice none 0 0] 116 (0,0))∧MapIs Tryz.prog 124 w' bf []:=by
  have hmk:=run_makeMap2
  go_enter Tryz.func25,Tryz.ntmps25
  go_wp2
  go_ret
  exact ⟨_,_,rfl,(Turn.alloc _ _ _).sA,(by simp;omega),new2_1 w _ _,(MapIs.made Tryz.prog 124 w).heap ((Turn.alloc nO _ _).block _ (by simp) id)⟩
end
section
open Go.RowKit
open Tier (Mes Ans Conf)
structure Fr (X:Nat→Prop) (own own':Own) (τ:Nat) (w w':World):Prop where
  keep:∀ k,k<w.heap.size→∀ x,¬ X x→own k=some (τ,x)→w'.heap[k]?=w.heap[k]?∧own' k=own k
theorem Fr.row {X:Nat→Prop} {own own':Own} {τ:Nat} {w w':World} (F:Fr X own own' τ w w') {x e size:Nat} {v:Value} {l:List (List Value)} (h:Row own τ x w e size v l) (hx:¬ X x):Row own' τ x w' e size v l:=h.frame (fun k hk ho=>F.keep k hk x hx ho)
theorem Fr.block {X:Nat→Prop} {own own':Own} {τ:Nat} {w w':World} (F:Fr X own own' τ w w') {k x:Nat} {o:Obj} (ho:own k=some (τ,x)) (hx:¬ X x) (hk:w.heap[k]?=some o):w'.heap[k]?=some o:=(F.keep k (heap_lt hk) x hx ho).1.trans hk
theorem Fr.map {X:Nat→Prop} {own own':Own} {τ:Nat} {w w':World} (F:Fr X own own' τ w w') {k x ty:Nat} {l:List (Value × Value)} (ho:own k=some (τ,x)) (hx:¬ X x) (hm:MapIs Tryz.prog ty w k l):MapIs Tryz.prog ty w' k l:=hm.heap (F.keep k hm.lt x hx ho).1
theorem Fr.own {X:Nat→Prop} {own own':Own} {τ:Nat} {w w':World} (F:Fr X own own' τ w w') {k x:Nat} (ho:own k=some (τ,x)) (hx:¬ X x) (hk:k<w.heap.size):own' k=some (τ,x):=(F.keep k hk x hx ho).2.trans ho
theorem heap_set {w:World} {b i:Nat} {v:Value} {cs:Array Value} {ty:TypeId} {fr:Nat × Nat} (h:w.heap[b]?=some (.cells cs ty fr)):(w.setCell ⟨b,i,none⟩ v).heap[b]?=some (.cells (cs.setIfInBounds i v) ty fr):=by
  unfold World.setCell
  simp [Array.getElem?_modify,h]
def putO (own:Own) (b:Nat) (x:Nat × Nat):Own:=fun k=>if k=b then some x else own k
theorem row_grown {own:Own} {τ x e size:Nat} {w1 w2:World} {l:List (List Value)} {n:List Value} {gb cap:Nat} (hO:w1.ownsRow 0 e size (.slice (some ⟨gb,0,none⟩) (l.length+1) cap) (l.length+1) (l.flatten ++ n)) (h2:w2.heap[gb]?=w1.heap[gb]?) :
    Row (putO own gb (τ,x)) τ x w2 e size (.slice (some ⟨gb,0,none⟩) (l.length+1) cap) (l ++ [n]):=by
 obtain ⟨hl,hv⟩:=hO
 refine ⟨⟨by simpa using hl,?_⟩,fun k hk=>by cases hk;simp [putO]⟩
 rcases hv with ⟨hv,_⟩|⟨g,c,cur,hv,hb,hg,r⟩
 ·cases hv
 ·cases hv
  exact Or.inr ⟨gb,cap,cur,by simp,hb,h2.trans hg,by simpa using r⟩
theorem putO_same {own:Own} {b:Nat} {x:Nat × Nat} {n:Nat} (h:own b=some x∨n≤b) {k:Nat} (hk:k<n):putO own b x k=own k:=by
  unfold putO
  split
  ·rename_i e
   subst e
   rcases h with h|h
   ·exact h.symm
   ·omega
  ·rfl
theorem Lies.sent {own:Own} {τ:Nat} {w w1:World} {bt:Nat} {g:Gh} {s:PS} (h:Lies own τ w bt g s) {m:Mes} {gb cap:Nat}
    (hO:w1.ownsRow 0 37 9 (.slice (some ⟨gb,0,none⟩) ((s.net.map mesL).length+1) cap) ((s.net.map mesL).length+1) ((s.net.map mesL).flatten ++ mesL m)) (hg:w.grownBy w1 g.nv.ownBlock) (hat:g.nv.ownBlock=some gb∨gb=w.heap.size) (hlt:gb<w1.heap.size) :
    Lies (putO own gb (τ,14)) τ (w1.setCell ⟨bt,15,none⟩ (.slice (some ⟨gb,0,none⟩) ((s.net.map mesL).length+1) cap)) bt { g with nv:= .slice (some ⟨gb,0,none⟩) ((s.net.map mesL).length+1) cap } { s with net:=s.net ++ [m] }∧Step τ own (putO own gb (τ,14)) w (w1.setCell ⟨bt,15,none⟩ (.slice (some ⟨gb,0,none⟩) ((s.net.map mesL).length+1) cap)):=by
 generalize hv:Value.slice (some ⟨gb,0,none⟩) ((s.net.map mesL).length+1) cap=v at *
 have hgb:own gb=some (τ,14)∨w.heap.size≤gb:=hat.imp (fun h1=>h.net.mine gb h1) (fun h1=>by omega)
 have hbt:bt≠gb:=by
   rintro rfl
   rcases hgb with h1|h1
   ·rw [h.tierO] at h1;cases h1
   ·have:=h.tier.lt;omega
 have hsame:∀ k,k<w.heap.size→putO own gb (τ,14) k=own k:=fun k hk=>putO_same hgb hk
 have hblk:∀ k,k<w.heap.size→k≠bt→some k≠g.nv.ownBlock→(w1.setCell ⟨bt,15,none⟩ v).heap[k]?=w.heap[k]?:=fun k hk h1 h2=>(hSO h1).trans (hg.block k hk h2)
 have F:Fr (fun x=>x=1∨x=14) own (putO own gb (τ,14)) τ w (w1.setCell ⟨bt,15,none⟩ v):=by
   refine ⟨fun k hk x hx ho=>⟨hblk k hk ?_ ?_,hsame k hk⟩⟩
   ·rintro rfl;rw [h.tierO] at ho;cases ho;exact hx (Or.inl rfl)
   ·intro e;rw [h.net.mine k e.symm] at ho;cases ho;exact hx (Or.inr rfl)
 have h1:w1.heap[bt]?=some (.cells (s.ts g).cells 77 (0,0)):=(hg.block bt h.tier.lt (fun e=>by have:=h.net.mine bt e.symm;rw [h.tierO] at this;cases this)).trans h.tier.block
 refine ⟨⟨?_,⟨?_⟩,?_,F.row h.pars (by omega),F.block h.origO (by omega) h.orig,F.own h.origO (by omega) (heap_lt h.orig),F.map h.recsO (by omega) h.recs,F.own h.recsO (by omega) h.recs.lt,F.block h.entsO (by omega) h.ents,F.own h.entsO (by omega) (heap_lt h.ents),F.map h.foundO (by omega) h.found,F.own h.foundO (by omega) h.found.lt,
   fun i hi=>F.row (h.used i hi) (by omega),F.map h.ftsO (by omega) h.fts,F.own h.ftsO (by omega) h.fts.lt,fun p hp=>F.row (h.waits p hp) (by omega),?_,F.row h.ans (by omega)⟩,⟨⟨hg.os,hg.tape,hg.output,by simpa using hg.size,fun k hk hm=>hblk k hk (fun e=>hm ⟨1,by rw [e];exact h.tierO⟩) (fun e=>hm ⟨14,h.net.mine k e.symm⟩)⟩,fun k hk=>Or.inl (hsame k hk)⟩⟩
 ·intro k hk
  have hk1:w1.heap.size≤k:=by simpa using hk
  unfold putO
  rw [if_neg (by omega)]
  exact h.top k (by have:=hg.size;omega)
 ·rw [heap_set h1];rfl
 ·rw [hsame bt h.tier.lt];exact h.tierO
 ·have hr:=row_grown (own:=own) (τ:=τ) (x:=14) (w2:=w1.setCell ⟨bt,15,none⟩ v) (hv ▸ hO) (hSO (Ne.symm hbt))
  rw [hv] at hr
  simpa using hr
theorem Lies.gave {own:Own} {τ:Nat} {w w1:World} {bt:Nat} {g:Gh} {s:PS} (h:Lies own τ w bt g s) {m:Ans} {gb cap:Nat}
    (hO:w1.ownsRow 0 63 7 (.slice (some ⟨gb,0,none⟩) ((s.answers.map ansL).length+1) cap) ((s.answers.map ansL).length+1) ((s.answers.map ansL).flatten ++ ansL m)) (hg:w.grownBy w1 g.av.ownBlock) (hat:g.av.ownBlock=some gb∨gb=w.heap.size) (hlt:gb<w1.heap.size) :
    Lies (putO own gb (τ,15)) τ (w1.setCell ⟨bt,16,none⟩ (.slice (some ⟨gb,0,none⟩) ((s.answers.map ansL).length+1) cap)) bt { g with av:= .slice (some ⟨gb,0,none⟩) ((s.answers.map ansL).length+1) cap } { s with answers:=s.answers ++ [m] }∧Step τ own (putO own gb (τ,15)) w (w1.setCell ⟨bt,16,none⟩ (.slice (some ⟨gb,0,none⟩) ((s.answers.map ansL).length+1) cap)):=by
 generalize hv:Value.slice (some ⟨gb,0,none⟩) ((s.answers.map ansL).length+1) cap=v at *
 have hgb:own gb=some (τ,15)∨w.heap.size≤gb:=hat.imp (fun h1=>h.ans.mine gb h1) (fun h1=>by omega)
 have hbt:bt≠gb:=by
   rintro rfl
   rcases hgb with h1|h1
   ·rw [h.tierO] at h1;cases h1
   ·have:=h.tier.lt;omega
 have hsame:∀ k,k<w.heap.size→putO own gb (τ,15) k=own k:=fun k hk=>putO_same hgb hk
 have hblk:∀ k,k<w.heap.size→k≠bt→some k≠g.av.ownBlock→(w1.setCell ⟨bt,16,none⟩ v).heap[k]?=w.heap[k]?:=fun k hk h1 h2=>(hSO h1).trans (hg.block k hk h2)
 have F:Fr (fun x=>x=1∨x=15) own (putO own gb (τ,15)) τ w (w1.setCell ⟨bt,16,none⟩ v):=by
   refine ⟨fun k hk x hx ho=>⟨hblk k hk ?_ ?_,hsame k hk⟩⟩
   ·rintro rfl;rw [h.tierO] at ho;cases ho;exact hx (Or.inl rfl)
   ·intro e;rw [h.ans.mine k e.symm] at ho;cases ho;exact hx (Or.inr rfl)
 have h1:w1.heap[bt]?=some (.cells (s.ts g).cells 77 (0,0)):=(hg.block bt h.tier.lt (fun e=>by have:=h.ans.mine bt e.symm;rw [h.tierO] at this;cases this)).trans h.tier.block
 refine ⟨⟨?_,⟨?_⟩,?_,F.row h.pars (by omega),F.block h.origO (by omega) h.orig,F.own h.origO (by omega) (heap_lt h.orig),F.map h.recsO (by omega) h.recs,F.own h.recsO (by omega) h.recs.lt,F.block h.entsO (by omega) h.ents,F.own h.entsO (by omega) (heap_lt h.ents),F.map h.foundO (by omega) h.found,F.own h.foundO (by omega) h.found.lt,
   fun i hi=>F.row (h.used i hi) (by omega),F.map h.ftsO (by omega) h.fts,F.own h.ftsO (by omega) h.fts.lt,fun p hp=>F.row (h.waits p hp) (by omega),F.row h.net (by omega),?_⟩,⟨⟨hg.os,hg.tape,hg.output,by simpa using hg.size,fun k hk hm=>hblk k hk (fun e=>hm ⟨1,by rw [e];exact h.tierO⟩) (fun e=>hm ⟨15,h.ans.mine k e.symm⟩)⟩,fun k hk=>Or.inl (hsame k hk)⟩⟩
 ·intro k hk
  have hk1:w1.heap.size≤k:=by simpa using hk
  unfold putO
  rw [if_neg (by omega)]
  exact h.top k (by have:=hg.size;omega)
 ·rw [heap_set h1];rfl
 ·rw [hsame bt h.tier.lt];exact h.tierO
 ·have hr:=row_grown (own:=own) (τ:=τ) (x:=15) (w2:=w1.setCell ⟨bt,16,none⟩ v) (hv ▸ hO) (hSO (Ne.symm hbt))
  rw [hv] at hr
  simpa using hr
def dropO (own:Own) (x:Nat × Nat):Own:=fun k=>if own k=some x then none else own k
structure Loose (own:Own) (w:World) (e size:Nat) (v:Value) (l:List (List Value)):Prop where
  row:w.ownsRow 0 e size v l.length l.flatten
  free:∀ k,v.ownBlock=some k→own k=none
theorem Loose.step {τ:Nat} {own own':Own} {w w':World} {e size:Nat} {v:Value} {l:List (List Value)} (h:Loose own w e size v l) (S:Step τ own own' w w'):Loose own' w' e size v l:=by
  have hlt:=h.row.lt
  obtain ⟨⟨hl,hv⟩,hm⟩:=h
  refine ⟨⟨hl,?_⟩,fun k hk=>?_⟩
  ·rcases hv with hv|⟨g,cap,cur,rfl,hb,hg,r⟩
   ·exact Or.inl hv
   ·exact Or.inr ⟨g,cap,cur,rfl,hb,(S.turn.block g (hlt g rfl).2 (fun ⟨x,hx⟩=>by rw [hm g rfl] at hx;cases hx)).trans hg,r⟩
  ·exact S.free (hlt k hk).2 (hm k hk)
theorem mem_adel {κ ε:Type} [DecidableEq κ] {l:List (κ × ε)} {k:κ} {p:κ × ε} (hn:l.Pairwise (fun p q=>p.1≠q.1)) (h:p∈adel l k):p∈l∧p.1≠k:=by
  induction l with
  | nil=>cases h
  | cons q r ih =>
    obtain ⟨h1,h2⟩:=List.pairwise_cons.1 hn
    unfold adel at h
    split at h
    ·rename_i e
     exact ⟨List.mem_cons_of_mem _ h,fun e'=>h1 p h (e.trans e'.symm)⟩
    ·rename_i e
     rcases List.mem_cons.1 h with rfl|h
     ·exact ⟨List.mem_cons_self ..,e⟩
     ·exact ⟨List.mem_cons_of_mem _ (ih h2 h).1,(ih h2 h).2⟩
theorem Lies.ended {own:Own} {τ:Nat} {w w1:World} {bt:Nat} {g:Gh} {s:PS} (h:Lies own τ w bt g s) {k:Nat × ByteArray} {f:Ft} (hf:aget s.fts k=some f) (hap:s.fts.Pairwise (fun p q=>p.2.serial≠q.2.serial)) (hpos:∀ p∈s.fts,0<p.2.serial)
    (hm:MapIs Tryz.prog 124 w1 g.bq (rawL placeV ftV (adel s.fts k))) (ht:w.mapTurned w1 g.bq) :
    ∃ own',Lies own' τ w1 bt g { s with fts:=adel s.fts k }∧Step τ own own' w w1∧Loose own' w1 146 4 f.v (f.l.map wtL):=by
 have hg:=ht.grown
 have hn:s.fts.Pairwise (fun p q=>p.1≠q.1):=rawL_apart h.fts.apart
 have hmem:=aget_mem hf
 have hd:∀ {k' x},own k'=some (τ,x)→x≠16+f.serial.toNat→dropO own (τ,16+f.serial.toNat) k'=own k':=fun {k' x} ho hx=>by
   unfold dropO
   rw [if_neg]
   rw [ho]
   intro e
   cases e
   exact hx rfl
 have hblk:∀ k',k'<w.heap.size→own k'≠some (τ,13)→w1.heap[k']?=w.heap[k']?:=fun k' hk ho=>hg.block k' hk (fun e=>by cases e;exact ho h.ftsO)
 have F:Fr (fun x=>x=13∨x=16+f.serial.toNat) own (dropO own (τ,16+f.serial.toNat)) τ w w1 :=
   ⟨fun k' hk x hx ho=>⟨hblk k' hk (fun e=>by rw [ho] at e;cases e;exact hx (Or.inl rfl)),hd ho (fun e=>hx (Or.inr e))⟩⟩
 refine ⟨dropO own (τ,16+f.serial.toNat),⟨?_,⟨F.block h.tierO (by omega) h.tier.block⟩,F.own h.tierO (by omega) h.tier.lt,F.row h.pars (by omega),F.block h.origO (by omega) h.orig,F.own h.origO (by omega) (heap_lt h.orig),F.map h.recsO (by omega) h.recs,F.own h.recsO (by omega) h.recs.lt,F.block h.entsO (by omega) h.ents,F.own h.entsO (by omega) (heap_lt h.ents),F.map h.foundO (by omega) h.found,F.own h.foundO (by omega) h.found.lt,
   fun i hi=>F.row (h.used i hi) (by omega),hm,?_,fun p hp=>?_,F.row h.net (by omega),F.row h.ans (by omega)⟩,⟨⟨hg.os,hg.tape,hg.output,hg.size,fun k' hk hm'=>hblk k' hk (fun e=>hm' ⟨_,e⟩)⟩,fun k' hk=>?_⟩,?_⟩
 ·intro k' hk
  have:=h.top k' (Nat.le_trans hg.size hk)
  unfold dropO
  rw [this]
  rfl
 ·rw [hd h.ftsO (by omega)];exact h.ftsO
 ·obtain ⟨hp1,hp2⟩:=mem_adel hn hp
  refine F.row (h.waits p hp1) ?_
  have h1:=hpos p hp1
  have h2:=hpos _ hmem
  have h3:p.2.serial≠f.serial:=fun e=>by
    have:=pw_eq (fun p:(Nat × ByteArray) × Ft=>p.2.serial) hap hp1 hmem e
    rw [this] at hp2
    exact hp2 rfl
  dsimp only at h2
  omega
 ·by_cases e:own k'=some (τ,16+f.serial.toNat)
  ·exact Or.inr ⟨⟨_,e⟩,Or.inl (by unfold dropO;rw [if_pos e])⟩
  ·exact Or.inl (by unfold dropO;rw [if_neg e])
 ·have hr:=h.waits _ hmem
  have hlt:=hr.row.lt
  obtain ⟨⟨hl,hv⟩,hmn⟩:=hr
  refine ⟨⟨hl,?_⟩,fun k' hk=>by unfold dropO;rw [if_pos (hmn k' hk)]⟩
  rcases hv with hv|⟨gb,cap,cur,hv,hb,hgb,r⟩
  ·exact Or.inl hv
  ·exact Or.inr ⟨gb,cap,cur,hv,hb,(hblk gb (hlt gb (by dsimp only at hv ⊢;rw [hv];rfl)).2 (fun e=>by
     have:=hmn gb (by dsimp only at hv ⊢;rw [hv];rfl)
     rw [this] at e
     dsimp only at e
     injection e with e
     injection e with e1 e2
     omega)).trans hgb,r⟩
theorem row_form {w:World} {base e size n:Nat} {v:Value} {xs:List Value} (h:w.ownsRow base e size v n xs):∃ a c,v= .slice a n c:=by
  obtain ⟨_,⟨rfl,rfl⟩|⟨g,cap,cur,rfl,_⟩⟩:=h
  ·exact ⟨_,_,rfl⟩
  ·exact ⟨_,_,rfl⟩
def moveO (own:Own) (x y:Nat × Nat):Own:=fun k=>if own k=some x then some y else own k
theorem mem_aput {κ ε:Type} [DecidableEq κ] {l:List (κ × ε)} {k:κ} {e:ε} {p:κ × ε} (hn:l.Pairwise (fun p q=>p.1≠q.1)) (h:p∈aput l k e):(p∈l∧p.1≠k)∨p=(k,e):=by
  induction l with
  | nil=>simp [aput] at h;exact Or.inr h
  | cons q r ih =>
    obtain ⟨h1,h2⟩:=List.pairwise_cons.1 hn
    unfold aput at h
    split at h
    ·rename_i e'
     rcases List.mem_cons.1 h with h|h
     ·exact Or.inr h
     ·exact Or.inl ⟨List.mem_cons_of_mem _ h,fun e2=>h1 p h (e'.trans e2.symm)⟩
    ·rename_i e'
     rcases List.mem_cons.1 h with rfl|h
     ·exact Or.inl ⟨List.mem_cons_self ..,e'⟩
     ·rcases ih h2 h with ⟨h3,h4⟩|h3
      ·exact Or.inl ⟨List.mem_cons_of_mem _ h3,h4⟩
      ·exact Or.inr h3
theorem Lies.fetched {own:Own} {τ:Nat} {w w2:World} {bt:Nat} {g:Gh} {s:PS} (h:Lies own τ w bt g s) {n:Nat} {k:ByteArray} {l:List Wt} {v:Value} {c:Int} (own':Own)
    (hown:∀ k',k'<w.heap.size→∀ x,(x≤15∨∃ p∈s.fts,p.1≠(n,k)∧x=16+p.2.serial.toNat)→own k'=some (τ,x)→own' k'=own k') (htop:∀ k',w2.heap.size≤k'→own' k'=none)
    (hrow:Row own' τ (16+(s.serial+1).toNat) w2 146 4 v (l.map wtL))
    (hm:MapIs Tryz.prog 124 w2 g.bq (rawL placeV ftV (aput s.fts (n,k) ⟨s.serial+1,c,l,v⟩))) (hb:w2.heap[bt]?=some (.cells ({ s.ts g with serial:=s.serial+1 }:TS).cells 77 (0,0)))
    (hblk:∀ k',k'<w.heap.size→k'≠bt→k'≠g.bq→w2.heap[k']?=w.heap[k']?) :
    Lies own' τ w2 bt g { s with serial:=s.serial+1,fts:=aput s.fts (n,k) ⟨s.serial+1,c,l,v⟩ }:=by
 have hn:s.fts.Pairwise (fun p q=>p.1≠q.1):=rawL_apart h.fts.apart
 have F:Fr (fun x=>¬ (x≤15∧x≠1∧x≠13∨∃ p∈s.fts,p.1≠(n,k)∧x=16+p.2.serial.toNat)) own own' τ w w2:=by
   refine ⟨fun k' hk x hx ho=>?_⟩
   have hx':=Classical.not_not.1 hx
   refine ⟨hblk k' hk ?_ ?_,hown k' hk x ?_ ho⟩
   ·rintro rfl
    rw [h.tierO] at ho
    cases ho
    rcases hx' with ⟨_,h1,_⟩|⟨p,_,_,h1⟩
    ·exact h1 rfl
    ·omega
   ·rintro rfl
    rw [h.ftsO] at ho
    cases ho
    rcases hx' with ⟨_,_,h1⟩|⟨p,_,_,h1⟩
    ·exact h1 rfl
    ·omega
   ·exact hx'.imp (fun h1=>h1.1) id
 have low:∀ {x:Nat},x≤15→x≠1→x≠13→¬ ¬ (x≤15∧x≠1∧x≠13∨∃ p∈s.fts,p.1≠(n,k)∧x=16+p.2.serial.toNat):=fun h1 h2 h3 h4=>h4 (Or.inl ⟨h1,h2,h3⟩)
 refine ⟨htop,⟨hb⟩,?_,F.row h.pars (low (by omega) (by omega) (by omega)),F.block h.origO (low (by omega) (by omega) (by omega)) h.orig,F.own h.origO (low (by omega) (by omega) (by omega)) (heap_lt h.orig),F.map h.recsO (low (by omega) (by omega) (by omega)) h.recs,F.own h.recsO (low (by omega) (by omega) (by omega)) h.recs.lt,F.block h.entsO (low (by omega) (by omega) (by omega)) h.ents,F.own h.entsO (low (by omega) (by omega) (by omega)) (heap_lt h.ents),F.map h.foundO (low (by omega) (by omega) (by omega)) h.found,F.own h.foundO (low (by omega) (by omega) (by omega)) h.found.lt,
   fun i hi=>F.row (h.used i hi) (low (by omega) (by omega) (by omega)),hm,?_,fun p hp=>?_,F.row h.net (low (by omega) (by omega) (by omega)),F.row h.ans (low (by omega) (by omega) (by omega))⟩
 ·rw [hown bt h.tier.lt 1 (Or.inl (by omega)) h.tierO];exact h.tierO
 ·rw [hown g.bq h.fts.lt 13 (Or.inl (by omega)) h.ftsO];exact h.ftsO
 ·rcases mem_aput hn hp with ⟨hp1,hp2⟩|rfl
  ·exact F.row (h.waits p hp1) (fun h4=>h4 (Or.inr ⟨p,hp1,hp2,rfl⟩))
  ·exact hrow
end
end Go.Proofs.YtpdkojgepagbnaaGreatDoor
