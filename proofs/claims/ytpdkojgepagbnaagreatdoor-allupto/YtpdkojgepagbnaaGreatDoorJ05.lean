/-
  The caches' entries in memory: how a place and an entry lie as values; a look-up of an entry.
  (*Entries).At.
  ELAPSED, ages; the tier's own block.
  The tier's own block; ages of its entries by its clocks.
  Fresh, ELAPSED by a tier's clock, an entry as others see it, which version a cache has, which node is a cache.
-/
import Derived.Test.YtpdkojgepagbnaaGreatDoorJ04
import Derived.WalkKit
import Derived.ProofKit
import Derived.Deep.RegionHeld3
import Derived.Deep.DrawnRows
import Derived.Test.YtpdkojgepagbnaaGreatDoorJ02
import Derived.BigQuiet
import Derived.Deep.QuietTactic
import Derived.Deep.CutRange
import Derived.Deep.AppendLies
import Derived.Maps.AppendAt
namespace Go.Proofs.YtpdkojgepagbnaaGreatDoor
set_option maxRecDepth 100000
set_option maxHeartbeats 8000000
section
open Go.RowKit
open Go.Maps (Keyed)
structure Turn (M:Nat→Prop) (w w':World):Prop where
  os:w'.os=w.os
  tape:w'.tape=w.tape
  output:w'.output=w.output
  size:w.heap.size≤w'.heap.size
  block:∀ k,k<w.heap.size→¬ M k→w'.heap[k]?=w.heap[k]?
def nO:Nat→Prop:=fun _=>False
theorem Turn.refl (M:Nat→Prop) (w:World):Turn M w w:=⟨rfl,rfl,rfl,Nat.le_refl _,fun _ _ _=>rfl⟩
theorem Turn.trans {M N:Nat→Prop} {a b c:World} (h:Turn M a b) (g:Turn N b c) (hs:∀ k,k<a.heap.size→N k→M k):Turn M a c :=
  ⟨g.os.trans h.os,g.tape.trans h.tape,g.output.trans h.output,Nat.le_trans h.size g.size,fun k hk hm=>(g.block k (Nat.lt_of_lt_of_le hk h.size) fun hn=>hm (hs k hk hn)).trans (h.block k hk hm)⟩
theorem Turn.mono {M N:Nat→Prop} {a b:World} (h:Turn M a b) (hs:∀ k,k<a.heap.size→M k→N k):Turn N a b :=
  ⟨h.os,h.tape,h.output,h.size,fun k hk hn=>h.block k hk fun hm=>hn (hs k hk hm)⟩
theorem Turn.alloc (M:Nat→Prop) (w:World) (o:Obj):Turn M w (w.alloc o) :=
  ⟨rfl,rfl,rfl,by simp,fun k hk _=>(MapKept.heap_alloc w o).2 k hk⟩
theorem Turn.drew (M:Nat→Prop) (w:World):Turn M w w.drew:=⟨rfl,rfl,rfl,Nat.le_refl _,fun _ _ _=>rfl⟩
theorem Turn.grown {w w':World} {row:Option Nat} (h:w.grownBy w' row):Turn (fun k=>some k=row) w w' :=
  ⟨h.os,h.tape,h.output,h.size,fun k hk hm=>h.block k hk hm⟩
theorem Turn.sA {M:Nat→Prop} {a w:World} {o:Obj} (h:Turn M a w):Turn M a (w.alloc o):=h.trans (Turn.alloc nO w o) (fun _ _ h=>h.elim)
theorem Turn.sD {M:Nat→Prop} {a w:World} (h:Turn M a w):Turn M a w.drew:=h.trans (Turn.drew nO w) (fun _ _ h=>h.elim)
theorem hSO {w:World} {a:Addr} {v:Value} {k:Nat} (h:k≠a.block):(w.setCell a v).heap[k]?=w.heap[k]?:=RowKit.Below.heap_setCell _ _ _ _ h
theorem Turn.sS {M:Nat→Prop} {a w:World} {p:Addr} {v:Value} (h:Turn M a w) (hp:a.heap.size≤p.block∨M p.block):Turn M a (w.setCell p v) :=
  ⟨h.os,h.tape,h.output,by simpa using h.size,fun k hk hm=>(hSO (fun e=>hp.elim (fun h1=>absurd h1 (by rw [← e];omega)) (fun h1=>hm (by rw [e];exact h1)))).trans (h.block k hk hm)⟩
theorem Turn.sT {M N:Nat→Prop} {a w w':World} (h:Turn M a w) (g:Turn N w w') (hs:∀ k,k<a.heap.size→N k→M k):Turn M a w':=h.trans g hs
theorem new1_0 (w:World) (o0:Obj):(w.alloc o0).heap[w.heap.size]?=some o0:=by have h:=(MapKept.heap_alloc w o0).1;simpa using h
theorem new2_0 (w:World) (o0:Obj) (o1:Obj):((w.alloc o0).alloc o1).heap[w.heap.size]?=some o0:=((MapKept.heap_alloc (w.alloc o0) o1).2 _ (by simp <;> omega)).trans (new1_0 w o0)
theorem new2_1 (w:World) (o0:Obj) (o1:Obj):((w.alloc o0).alloc o1).heap[w.heap.size+1]?=some o1:=by have h:=(MapKept.heap_alloc (w.alloc o0) o1).1;simpa using h
theorem new3_0 (w:World) (o0:Obj) (o1:Obj) (o2:Obj):(((w.alloc o0).alloc o1).alloc o2).heap[w.heap.size]?=some o0:=((MapKept.heap_alloc ((w.alloc o0).alloc o1) o2).2 _ (by simp <;> omega)).trans (new2_0 w o0 o1)
theorem new3_1 (w:World) (o0:Obj) (o1:Obj) (o2:Obj):(((w.alloc o0).alloc o1).alloc o2).heap[w.heap.size+1]?=some o1:=((MapKept.heap_alloc ((w.alloc o0).alloc o1) o2).2 _ (by simp <;> omega)).trans (new2_1 w o0 o1)
theorem cOf {w:World} {b:Nat} {cs:Array Value} {ty:TypeId} {fr:Nat × Nat} (h:w.heap[b]?=some (.cells cs ty fr)) (i:Nat):w.cell? ⟨b,i,none⟩=cs[i]?:=by simp [World.cell?,h]
theorem fOf {w:World} {b:Nat} {cs:Array Value} {ty:TypeId} (h:w.heap[b]?=some (.cells cs ty (0,0))) (i:Nat):w.frozen? ⟨b,i,none⟩=false:=by simp [World.frozen?,h]
theorem cell_lt {w:World} {a:Addr} {v:Value} (h:w.cell? a=some v):a.block<w.heap.size:=by
  unfold World.cell? at h
  split at h
  ·rename_i h1;exact (Array.getElem?_eq_some_iff.1 h1).1
  ·cases h
theorem Turn.cell {M:Nat→Prop} {w w':World} (h:Turn M w w') {a:Addr} {v:Value} (hc:w.cell? a=some v) (hm:¬ M a.block):w'.cell? a=some v:=by
  rw [World.cell?_of_block (h.block _ (cell_lt hc) hm)];exact hc
theorem Turn.froz {M:Nat→Prop} {w w':World} (h:Turn M w w') {a:Addr} {v:Value} (hc:w.cell? a=some v) (hm:¬ M a.block) (hf:w.frozen? a=false):w'.frozen? a=false:=by
  rw [World.frozen?_of_block (h.block _ (cell_lt hc) hm)];exact hf
theorem laidOut:laidOutB Tryz.prog=true:=by kernel_rfl
structure Ent where
  ver:Int
  pres:Int
  val:ByteArray
  base:Int
  since:Int
def placeV (p:Nat × ByteArray):Value:= .agg #[.int .i64 (p.1:Int),.string p.2]
def entV (e:Ent):Value:= .agg #[.int .i64 e.ver,.int .i64 e.pres,.string e.val,.int .i64 e.base,.int .i64 e.since]
def noEnt:Ent:=⟨0,0,⟨#[]⟩,0,0⟩
theorem placeV_inj (a b:Nat × ByteArray) (h:placeV a=placeV b):a=b:=by
  obtain ⟨a1,a2⟩:=a
  obtain ⟨b1,b2⟩:=b
  simp [placeV] at h
  exact Prod.ext (Int.ofNat.inj h.1) h.2
theorem placeKeyed:Keyed Tryz.prog 124:=Keyed.of_law (deep_law_laid laidOut (m:=2) (by omega) (of_decide_eq_true (by kernel_rfl)) (by kernel_rfl) (by kernel_rfl))
theorem keyOf_two {P:Program} {t a b:TypeId} {f0 f1:Field} (hu:P.underlying t=some (.struct #[f0,f1])) (ha:P.underlying a=some (.int .i64)) (hb:P.underlying b=some .string) (h0:f0.type=a) (h1:f1.type=b) (o0:f0.offset=0) (o1:f1.offset=1) (n0:(f0.name != "_")=true) (n1:(f1.name != "_")=true)
    (hk:P.keyType t=true) (hc:P.cellsOf t=2) (ca:P.cellsOf a=1) (cb:P.cellsOf b=1) (hp:P.types.size≠0) {n:Int} {s:ByteArray} (hw:(Lit.int .i64 n).wf=true) (hs:s.size≤maxLen):∃ kl,keyOf P t (.agg #[.int .i64 n,.string s])=some kl:=by
 obtain ⟨m,hm⟩:∃ m,P.types.size+1=m+2:=⟨P.types.size - 1,by omega⟩
 have hl:P.keyLits (P.types.size+1) t [.int .i64 n,.string s]=some [.int .i64 n,.string s.data.toList]:=by
   rw [hm]
   simp [Program.keyLits,hu,ha,hb,hc,h0,h1,o0,o1,ca,cb,hw,hs,n0,n1]
 have hf:(Value.agg #[.int .i64 n,.string s]).formed P t=true:=by simp [Value.formed,hu,hc]
 unfold keyOf
 rw [hu]
 simp only [hk,hf,Bool.and_self,if_true,Value.cells]
 rw [hl]
 exact ⟨_,rfl⟩
theorem placeKey {p:Nat × ByteArray} (h1:p.1<1000) (h2:p.2.size≤100):∃ kl,keyOf Tryz.prog 124 (placeV p)=some kl :=
  keyOf_two Tryz.underlying124 Tryz.underlying3 Tryz.underlying9 rfl rfl rfl rfl (by decide) (by decide) (by kernel_rfl) (by kernel_rfl) (by kernel_rfl) (by kernel_rfl) (of_decide_eq_true (by kernel_rfl)) (WalkArith.wf_i64 (by omega)) (by unfold maxLen;omega)
theorem zeroEnt (w:World):(zeroValue 126).run Tryz.prog w= .ok (entV noEnt) w:=by kernel_rfl
theorem tN {M:Nat→Prop} {a w w':World} (h:Turn M a w) (g:Turn nO w w'):Turn M a w':=h.sT g (fun _ _ h=>h.elim)
theorem tG {M:Nat→Prop} {a w w':World} {row:Option Nat} (h:Turn (fun k=>M k∨some k=row) a w) (g:w.grownBy w' row):Turn (fun k=>M k∨some k=row) a w':=h.sT (Turn.grown g) (fun _ _ h=>Or.inr h)
theorem tAD {M:Nat→Prop} {w:World} {o:Obj}:Turn M w (w.alloc o).drew:=(Turn.refl _ _).sA.sD
theorem tADG {M:Nat→Prop} {w w':World} {o:Obj} {row:Option Nat} (g:(w.alloc o).drew.grownBy w' row):Turn (fun k=>M k∨some k=row) w w':=((Turn.refl _ _).sA.sD).sT (Turn.grown g) (fun _ _ h=>Or.inr h)
theorem tADGS {b:Nat} {w w':World} {o:Obj} {row:Option Nat} {i:Nat} {v:Value} (g:(w.alloc o).drew.grownBy w' row):Turn (fun k=>k=b∨some k=row) w (w'.setCell ⟨b,i,none⟩ v):=(tADG g).sS (Or.inr (Or.inl rfl))
theorem exC {w:World} {b:Nat} {cs:Array Value} (h:∃ ty,w.heap[b]?=some (.cells cs ty (0,0))) (i:Nat):w.cell? ⟨b,i,none⟩=cs[i]?:=by obtain ⟨_,h⟩:=h;exact cOf h i
theorem tkE {P:Program} {ops:Array Oper} {Q:Exit→Act→World→Prop} {md:Region.Mode} {S:World→Prop} {i:Nat} {oi:Oper} {v:Value} {fuel:Nat} {listed:Array Bool} {a:Act} {w:World} (hi:ops[i]?=some oi)
    (hy:∀ w,S w→(execOp a.eval oi).run P w= .ok (.value v) w) (h:wpAnyH P md ops Q S fuel (listed.setIfInBounds i true) (a.put oi.dst v) w)
    (hs:Region.noSelect ops=true:=by kernel_rfl) (hf:Region.free md ops listed i=true:=by kernel_rfl) (hr:(Region.ready md ops listed).contains i=true:=by kernel_rfl)
    (hQ:∀ c a w,Q (.panic c) (a.put oi.dst v) w→Q (.panic c) a w:=by exact fun _ _ _ h=>h) (hg:Region.wanted oi (yielded ops a.tmps)=true:=by rfl) (hS:S w:=by assumption):wpAnyH P md ops Q S (fuel+1) listed a w :=
 wpAnyH_take hi hs hf hr hQ (Or.inl ⟨hg,hy⟩) hS h
theorem cC2 {w:World} {b:Nat} {ty:TypeId} {fr:Nat × Nat} {v0 v1:Value} (h:w.heap[b]?=some (.cells #[v0,v1] ty fr)):w.cell? ⟨b,0,none⟩=some v0∧w.cell? ⟨b,1,none⟩=some v1:=⟨cOf h 0,cOf h 1⟩
theorem cC5 {w:World} {b:Nat} {ty:TypeId} {fr:Nat × Nat} {v0 v1 v2 v3 v4:Value} (h:w.heap[b]?=some (.cells #[v0,v1,v2,v3,v4] ty fr)):w.cell? ⟨b,0,none⟩=some v0∧w.cell? ⟨b,1,none⟩=some v1∧w.cell? ⟨b,2,none⟩=some v2∧w.cell? ⟨b,3,none⟩=some v3∧w.cell? ⟨b,4,none⟩=some v4:=⟨cOf h 0,cOf h 1,cOf h 2,cOf h 3,cOf h 4⟩
theorem cC7 {w:World} {b:Nat} {ty:TypeId} {fr:Nat × Nat} {v0 v1 v2 v3 v4 v5 v6:Value} (h:w.heap[b]?=some (.cells #[v0,v1,v2,v3,v4,v5,v6] ty fr)):w.cell? ⟨b,0,none⟩=some v0∧w.cell? ⟨b,1,none⟩=some v1∧w.cell? ⟨b,2,none⟩=some v2∧w.cell? ⟨b,3,none⟩=some v3∧w.cell? ⟨b,4,none⟩=some v4∧w.cell? ⟨b,5,none⟩=some v5∧w.cell? ⟨b,6,none⟩=some v6:=⟨cOf h 0,cOf h 1,cOf h 2,cOf h 3,cOf h 4,cOf h 5,cOf h 6⟩
theorem cC9 {w:World} {b:Nat} {ty:TypeId} {fr:Nat × Nat} {v0 v1 v2 v3 v4 v5 v6 v7 v8:Value} (h:w.heap[b]?=some (.cells #[v0,v1,v2,v3,v4,v5,v6,v7,v8] ty fr)):w.cell? ⟨b,0,none⟩=some v0∧w.cell? ⟨b,1,none⟩=some v1∧w.cell? ⟨b,2,none⟩=some v2∧w.cell? ⟨b,3,none⟩=some v3∧w.cell? ⟨b,4,none⟩=some v4∧w.cell? ⟨b,5,none⟩=some v5∧w.cell? ⟨b,6,none⟩=some v6∧w.cell? ⟨b,7,none⟩=some v7∧w.cell? ⟨b,8,none⟩=some v8:=⟨cOf h 0,cOf h 1,cOf h 2,cOf h 3,cOf h 4,cOf h 5,cOf h 6,cOf h 7,cOf h 8⟩
theorem eC2 {w:World} {b:Nat} {v0 v1:Value} (h:∃ ty,w.heap[b]?=some (.cells #[v0,v1] ty (0,0))):w.cell? ⟨b,0,none⟩=some v0∧w.cell? ⟨b,1,none⟩=some v1:=⟨exC h 0,exC h 1⟩
theorem eC4 {w:World} {b:Nat} {v0 v1 v2 v3:Value} (h:∃ ty,w.heap[b]?=some (.cells #[v0,v1,v2,v3] ty (0,0))):w.cell? ⟨b,0,none⟩=some v0∧w.cell? ⟨b,1,none⟩=some v1∧w.cell? ⟨b,2,none⟩=some v2∧w.cell? ⟨b,3,none⟩=some v3:=⟨exC h 0,exC h 1,exC h 2,exC h 3⟩
theorem eC5 {w:World} {b:Nat} {v0 v1 v2 v3 v4:Value} (h:∃ ty,w.heap[b]?=some (.cells #[v0,v1,v2,v3,v4] ty (0,0))):w.cell? ⟨b,0,none⟩=some v0∧w.cell? ⟨b,1,none⟩=some v1∧w.cell? ⟨b,2,none⟩=some v2∧w.cell? ⟨b,3,none⟩=some v3∧w.cell? ⟨b,4,none⟩=some v4:=⟨exC h 0,exC h 1,exC h 2,exC h 3,exC h 4⟩
theorem eC6 {w:World} {b:Nat} {v0 v1 v2 v3 v4 v5:Value} (h:∃ ty,w.heap[b]?=some (.cells #[v0,v1,v2,v3,v4,v5] ty (0,0))):w.cell? ⟨b,0,none⟩=some v0∧w.cell? ⟨b,1,none⟩=some v1∧w.cell? ⟨b,2,none⟩=some v2∧w.cell? ⟨b,3,none⟩=some v3∧w.cell? ⟨b,4,none⟩=some v4∧w.cell? ⟨b,5,none⟩=some v5:=⟨exC h 0,exC h 1,exC h 2,exC h 3,exC h 4,exC h 5⟩
theorem eC9 {w:World} {b:Nat} {v0 v1 v2 v3 v4 v5 v6 v7 v8:Value} (h:∃ ty,w.heap[b]?=some (.cells #[v0,v1,v2,v3,v4,v5,v6,v7,v8] ty (0,0))):w.cell? ⟨b,0,none⟩=some v0∧w.cell? ⟨b,1,none⟩=some v1∧w.cell? ⟨b,2,none⟩=some v2∧w.cell? ⟨b,3,none⟩=some v3∧w.cell? ⟨b,4,none⟩=some v4∧w.cell? ⟨b,5,none⟩=some v5∧w.cell? ⟨b,6,none⟩=some v6∧w.cell? ⟨b,7,none⟩=some v7∧w.cell? ⟨b,8,none⟩=some v8:=⟨exC h 0,exC h 1,exC h 2,exC h 3,exC h 4,exC h 5,exC h 6,exC h 7,exC h 8⟩
theorem rC2 {w:World} {b j:Nat} {v0 v1:Value} (h:∀ i,i<2→w.cell? ⟨b,j*2+i,none⟩=[v0,v1][i]?):w.cell? ⟨b,j*2,none⟩=some v0∧w.cell? ⟨b,j*2+1,none⟩=some v1:=⟨h 0 (by omega),h 1 (by omega)⟩
theorem rC4 {w:World} {b j:Nat} {v0 v1 v2 v3:Value} (h:∀ i,i<4→w.cell? ⟨b,j*4+i,none⟩=[v0,v1,v2,v3][i]?):w.cell? ⟨b,j*4,none⟩=some v0∧w.cell? ⟨b,j*4+1,none⟩=some v1∧w.cell? ⟨b,j*4+2,none⟩=some v2∧w.cell? ⟨b,j*4+3,none⟩=some v3:=⟨h 0 (by omega),h 1 (by omega),h 2 (by omega),h 3 (by omega)⟩
theorem rC6 {w:World} {b j:Nat} {v0 v1 v2 v3 v4 v5:Value} (h:∀ i,i<6→w.cell? ⟨b,j*6+i,none⟩=[v0,v1,v2,v3,v4,v5][i]?):w.cell? ⟨b,j*6,none⟩=some v0∧w.cell? ⟨b,j*6+1,none⟩=some v1∧w.cell? ⟨b,j*6+2,none⟩=some v2∧w.cell? ⟨b,j*6+3,none⟩=some v3∧w.cell? ⟨b,j*6+4,none⟩=some v4∧w.cell? ⟨b,j*6+5,none⟩=some v5:=⟨h 0 (by omega),h 1 (by omega),h 2 (by omega),h 3 (by omega),h 4 (by omega),h 5 (by omega)⟩
theorem rC9 {w:World} {b j:Nat} {v0 v1 v2 v3 v4 v5 v6 v7 v8:Value} (h:∀ i,i<9→w.cell? ⟨b,j*9+i,none⟩=[v0,v1,v2,v3,v4,v5,v6,v7,v8][i]?):w.cell? ⟨b,j*9,none⟩=some v0∧w.cell? ⟨b,j*9+1,none⟩=some v1∧w.cell? ⟨b,j*9+2,none⟩=some v2∧w.cell? ⟨b,j*9+3,none⟩=some v3∧w.cell? ⟨b,j*9+4,none⟩=some v4∧w.cell? ⟨b,j*9+5,none⟩=some v5∧w.cell? ⟨b,j*9+6,none⟩=some v6∧w.cell? ⟨b,j*9+7,none⟩=some v7∧w.cell? ⟨b,j*9+8,none⟩=some v8:=⟨h 0 (by omega),h 1 (by omega),h 2 (by omega),h 3 (by omega),h 4 (by omega),h 5 (by omega),h 6 (by omega),h 7 (by omega),h 8 (by omega)⟩
end
section
open Go.RowKit
open Go.Maps (Keyed)
attribute [local go_sem ↓] Go.wp_at_zero Go.wp_at_succ
theorem ent_look {w:World} {bf:Nat} {l:List ((Nat × ByteArray) × Ent)} (hm:MapIs Tryz.prog 124 w bf (rawL placeV entV l)) {n:Nat} {k:ByteArray} (h1:n<1000) (h2:k.size≤100) :
    (Instr.lookup 112 (.map (some bf)) (.agg #[.int .i64 (n:Int),.string k]) true).run Tryz.prog w= .ok (.tuple #[entV ((aget l (n,k)).getD noEnt),.bool (aget l (n,k)).isSome]) w:=by
 obtain ⟨kl,hkey⟩:=placeKey (p:=(n,k)) h1 h2
 have:=map_look hm placeKeyed Tryz.underlying112 placeV_inj hkey (zeroEnt w) true
 cases hg:aget l (n,k) <;> rw [hg] at this <;> simpa [placeV] using this
theorem At_any (be bf:Nat) (l:List ((Nat × ByteArray) × Ent)) (n:Nat) (k:ByteArray) (w:World) (hc:w.cell? ⟨be,1,none⟩=some (.map (some bf))) (hm:MapIs Tryz.prog 124 w bf (rawL placeV entV l)) (h1:n<1000) (h2:k.size≤100) :
    Calls Tryz.prog 65 #[.pointer (some ⟨be,0,none⟩),placeV (n,k)] w fun e w'=>e= .returned (.tuple #[entV ((aget l (n,k)).getD noEnt),.bool (aget l (n,k)).isSome])∧Turn nO w w':=by
 have hlook:∀ w':World,w'.heap[bf]?=w.heap[bf]?→(Instr.lookup 112 (.map (some bf)) (.agg #[.int .i64 (n:Int),.string k]) true).run Tryz.prog w'= .ok (.tuple #[entV ((aget l (n,k)).getD noEnt),.bool (aget l (n,k)).isSome]) w':=fun w' e=>ent_look (hm.heap e) h1 h2
 generalize (aget l (n,k)).isSome=ok at *
 generalize (aget l (n,k)).getD noEnt=E at *
 obtain ⟨ver,pres,val,base,since⟩:=E
 simp only [entV] at hlook ⊢
 unfold placeV
 dsimp only
 have hbf:bf<w.heap.size:=hm.lt
 clear hm
 go_enter Tryz.func65,Tryz.ntmps65
 go_wp2
 generalize hW:World.alloc _ _=W0
 have T0:Turn nO w W0:=by rw [← hW];exact (Turn.alloc _ _ _).sA
 have c0:W0.cell? ⟨be,1,none⟩=some (.map (some bf)):=T0.cell hc id
 have c1:W0.cell? ⟨w.heap.size,0,none⟩=some (.int .i64 (n:Int)):=by rw [← hW];simp
 have c2:W0.cell? ⟨w.heap.size,1,none⟩=some (.string k):=by rw [← hW];simp
 have c4:W0.heap.size=w.heap.size+2:=by rw [← hW];simp
 have HS:∀ w',Turn nO W0 w'→Turn nO W0 w'∧w'.cell? ⟨be,1,none⟩=some (.map (some bf))∧w'.cell? ⟨w.heap.size,0,none⟩=some (.int .i64 (n:Int))∧w'.cell? ⟨w.heap.size,1,none⟩=some (.string k)∧(Instr.lookup 112 (.map (some bf)) (.agg #[.int .i64 (n:Int),.string k]) true).run Tryz.prog w'= .ok (.tuple #[.agg #[.int .i64 ver,.int .i64 pres,.string val,.int .i64 base,.int .i64 since],.bool ok]) w' :=
   fun w' T=>⟨T,T.cell c0 id,T.cell c1 id,T.cell c2 id,hlook _ ((T.block _ (by omega) id).trans (T0.block _ hbf id))⟩
 go_region_held3 (fun w'=>Turn nO W0 w'∧w'.cell? ⟨be,1,none⟩=some (.map (some bf))∧w'.cell? ⟨w.heap.size,0,none⟩=some (.int .i64 (n:Int))∧w'.cell? ⟨w.heap.size,1,none⟩=some (.string k)∧(Instr.lookup 112 (.map (some bf)) (.agg #[.int .i64 (n:Int),.string k]) true).run Tryz.prog w'= .ok (.tuple #[.agg #[.int .i64 ver,.int .i64 pres,.string val,.int .i64 base,.int .i64 since],.bool ok]) w') ((go_split_ands;apply HS;all_goals (repeat (first|(with_reducible first|assumption|exact Turn.refl _ _|apply Turn.sA|apply Turn.sD|refine tN ?_ (by assumption))|((with_reducible refine Turn.sS ?_ ?_);rotate_left;· first|exact Or.inr rfl|exact Or.inr (Or.inl rfl)|exact Or.inl (by simp <;> omega))|(with_reducible refine tG ?_ (by assumption))|(with_reducible first|apply There.drew|apply There.set|refine hNo ?_ (by assumption))|assumption)))) (fail)
 all_goals subst hW
 all_goals go_wp2
 all_goals exact bodyPost_ret (v:= .tuple #[.agg #[.int .i64 ver,.int .i64 pres,.string val,.int .i64 base,.int .i64 since],.bool ok]) (by simp [results,Tryz.results65,go_sem]) rfl ⟨rfl,by (repeat (first|(with_reducible first|assumption|exact Turn.refl _ _|apply Turn.sA|apply Turn.sD|refine tN ?_ (by assumption))|((with_reducible refine Turn.sS ?_ ?_);rotate_left;· first|exact Or.inr rfl|exact Or.inr (Or.inl rfl)|exact Or.inl (by simp <;> omega))|(with_reducible refine tG ?_ (by assumption))|(with_reducible first|apply There.drew|apply There.set|refine hNo ?_ (by assumption))|assumption))⟩
end
section
open Go.RowKit
def elap (drift d:Int):Int:=(d*1000000+(1000000 - drift) - 1) / (1000000 - drift)
theorem elap_le {drift d:Int} (h1:0≤d) (h2:d≤1099511627776) (h3:0≤drift) (h4:drift≤500000):0≤elap drift d∧elap drift d≤2199023255554:=by
  unfold elap
  constructor
  ·exact Int.ediv_nonneg (by omega) (by omega)
  ·have:d*1000000+(1000000 - drift) - 1≤2199023255554*(1000000 - drift):=by
     have:2199023255553*500000≤2199023255553*(1000000 - drift):=Int.mul_le_mul_of_nonneg_left (by omega) (by omega)
     omega
   exact Int.ediv_le_of_le_mul (by omega) this
theorem Elapsed_any (d drift:Int) (w:World) (h1:0≤d) (h2:d≤1099511627776) (h3:0≤drift) (h4:drift≤500000) :
    Calls Tryz.prog 130 #[.int .i64 d,.int .i64 drift] w fun e w'=>e= .returned (.int .i64 (elap drift d))∧w'=w:=by
 have h5:1000000 - drift≠0:=by omega
 go_enter Tryz.func130,Tryz.ntmps130
 go_wp2
 go_ret
 exact ⟨by simp [elap],rfl⟩
def ageAt (drift clock:Int) (e:Ent):Int:=e.base+elap drift (clock - e.since)
structure Ent.Fine (e:Ent) (clock:Int):Prop where
  b0:0≤e.base
  b1:e.base≤4398046511104
  s0:0≤e.since
  s1:e.since≤clock
  c1:clock≤1099511627776
theorem EntAge_any (e:Ent) (clock drift:Int) (w:World) (hf:e.Fine clock) (h3:0≤drift) (h4:drift≤500000) :
    Calls Tryz.prog 120 #[entV e,.int .i64 clock,.int .i64 drift] w fun r w'=>r= .returned (.int .i64 (ageAt drift clock e))∧Turn nO w w':=by
 obtain ⟨ver,pres,val,base,since⟩:=e
 obtain ⟨b0,b1,s0,s1,k1⟩:=hf
 dsimp only at b0 b1 s0 s1 k1
 unfold entV ageAt
 dsimp only
 have hE:=elap_le (drift:=drift) (d:=clock - since) (by omega) (by omega) h3 h4
 have HC:∀ w:World,Calls Tryz.prog 130 #[.int .i64 (clock - since),.int .i64 drift] w fun e w'=>e= .returned (.int .i64 (elap drift (clock - since)))∧w'=w:=fun w=>Elapsed_any _ _ w (by omega) (by omega) h3 h4
 generalize elap drift (clock - since)=x at *
 have KC:=hide HC
 clear HC
 have NUM:=hide (And.intro b0 (And.intro b1 (And.intro s0 (And.intro s1 k1))))
 have hw1:IntKind.i64.wrap (clock - since)=clock - since:=by rw [IntKind.wrap_i64];omega
 have hw2:IntKind.i64.wrap (base+x)=base+x:=by rw [IntKind.wrap_i64];omega
 clear b0 b1 s0 s1 k1 hE h3 h4
 go_enter Tryz.func120,Tryz.ntmps120
 go_wp2
 generalize hW:World.alloc _ _=W0
 have T0:Turn nO w W0:=by rw [← hW];exact Turn.alloc _ _ _
 have c1:W0.cell? ⟨w.heap.size,3,none⟩=some (.int .i64 base):=by rw [← hW];simp
 have c2:W0.cell? ⟨w.heap.size,4,none⟩=some (.int .i64 since):=by rw [← hW];simp
 have HS:∀ w',Turn nO W0 w'→Turn nO W0 w'∧w'.cell? ⟨w.heap.size,3,none⟩=some (.int .i64 base)∧w'.cell? ⟨w.heap.size,4,none⟩=some (.int .i64 since) :=
   fun w' T=>⟨T,T.cell c1 id,T.cell c2 id⟩
 go_region_held3 (fun w'=>Turn nO W0 w'∧w'.cell? ⟨w.heap.size,3,none⟩=some (.int .i64 base)∧w'.cell? ⟨w.heap.size,4,none⟩=some (.int .i64 since)) ((go_split_ands;apply HS;all_goals (repeat (first|(with_reducible first|assumption|exact Turn.refl _ _|apply Turn.sA|apply Turn.sD|refine tN ?_ (by assumption))|((with_reducible refine Turn.sS ?_ ?_);rotate_left;· first|exact Or.inr rfl|exact Or.inr (Or.inl rfl)|exact Or.inl (by simp <;> omega))|(with_reducible refine tG ?_ (by assumption))|(with_reducible first|apply There.drew|apply There.set|refine hNo ?_ (by assumption))|assumption)))) (first|(go_at_call 130;refine (uH KC _).mono ?_;rintro e w' ⟨rfl,rfl⟩))
 all_goals go_wp2
 all_goals go_ret
 all_goals exact ⟨rfl,T0.sT (by (repeat (first|(with_reducible first|assumption|exact Turn.refl _ _|apply Turn.sA|apply Turn.sD|refine tN ?_ (by assumption))|((with_reducible refine Turn.sS ?_ ?_);rotate_left;· first|exact Or.inr rfl|exact Or.inr (Or.inl rfl)|exact Or.inl (by simp <;> omega))|(with_reducible refine tG ?_ (by assumption))|(with_reducible first|apply There.drew|apply There.set|refine hNo ?_ (by assumption))|assumption))) (fun _ _ h=>h)⟩
structure TS where
  pv:Value
  drift:Int
  budget:Int
  ents:Int
  waits:Int
  bo:Nat
  clk:Nat→Int
  be:Nat
  bq:Nat
  serial:Int
  nv:Value
  av:Value
def TS.cells (t:TS):Array Value:=#[t.pv,.int .i64 t.drift,.int .i64 t.budget,.int .i64 t.ents,.int .i64 t.waits,.pointer (some ⟨t.bo,0,none⟩),.int .i64 (t.clk 0),.int .i64 (t.clk 1),.int .i64 (t.clk 2),.int .i64 (t.clk 3),.int .i64 (t.clk 4),.int .i64 (t.clk 5),.pointer (some ⟨t.be,0,none⟩),.map (some t.bq),.int .i64 t.serial,t.nv,t.av]
structure TierIs (w:World) (bt:Nat) (t:TS):Prop where
  block:w.heap[bt]?=some (.cells t.cells 77 (0,0))
theorem heap_lt {w:World} {b:Nat} {o:Obj} (h:w.heap[b]?=some o):b<w.heap.size:=(Array.getElem?_eq_some_iff.1 h).1
structure There (w:World) (b n:Nat):Prop where
  are:∀ i,i<n→(w.cell? ⟨b,i,none⟩).isSome=true
  free:∀ i,w.frozen? ⟨b,i,none⟩=false
theorem There.of_cells {w:World} {b n:Nat} {cs:Array Value} {ty:TypeId} (h:w.heap[b]?=some (.cells cs ty (0,0))) (hn:n≤cs.size):There w b n :=
  ⟨fun i hi=>by rw [cOf h];simp;omega,fun i=>fOf h i⟩
theorem There.new {w:World} {b n:Nat} {cs:Array Value} {ty:TypeId} (hb:b=w.heap.size) (hn:n≤cs.size):There (w.alloc (.cells cs ty)) b n:=by
  subst hb
  exact There.of_cells (MapKept.heap_alloc w _).1 hn
theorem There.turn {M:Nat→Prop} {w w':World} {b n:Nat} (h:There w b (n+1)) (T:Turn M w w') (hm:¬ M b):There w' b (n+1):=by
  have hb:b<w.heap.size:=by
    have:=h.are 0 (by omega)
    obtain ⟨v,hv⟩:=Option.isSome_iff_exists.1 this
    exact cell_lt hv
  have e:=T.block b hb hm
  exact ⟨fun i hi=>by rw [World.cell?_of_block (w:=w) (w':=w') (a:=⟨b,i,none⟩) e];exact h.are i hi,fun i=>by rw [World.frozen?_of_block (w:=w) (w':=w') (a:=⟨b,i,none⟩) e];exact h.free i⟩
theorem There.set {w:World} {b n:Nat} {a:Addr} {v:Value} (h:There w b n):There (w.setCell a v) b n:=by
  refine ⟨fun i hi=>?_,fun i=>?_⟩
  ·obtain ⟨u,hu⟩:=Option.isSome_iff_exists.1 (h.are i hi)
   obtain ⟨v',hv'⟩:=cell?_setCell_some (w:=w) (p:=a) (x:=v) (q:=⟨b,i,none⟩) (v:=u) hu
   rw [hv'];rfl
  ·simp [h.free i]
theorem There.drew {w:World} {b n:Nat} (h:There w b n):There w.drew b n:=⟨h.are,h.free⟩
def peek (w:World) (a:Addr):Value:=(w.cell? a).getD undef
theorem peek_some {w:World} {a:Addr} (h:(w.cell? a).isSome=true):w.cell? a=some (peek w a):=by
  obtain ⟨u,hu⟩:=Option.isSome_iff_exists.1 h
  simp [peek,hu]
theorem TierIs.lt {w:World} {bt:Nat} {t:TS} (h:TierIs w bt t):bt<w.heap.size:=heap_lt h.block
theorem TierIs.clk {w:World} {bt:Nat} {t:TS} (h:TierIs w bt t) {n:Nat} (hn:n<6):w.cell? ⟨bt,6+n,none⟩=some (.int .i64 (t.clk n)):=by
  rw [cOf h.block]
  match n,hn with
  | 0,_=>rfl
  | 1,_=>rfl
  | 2,_=>rfl
  | 3,_=>rfl
  | 4,_=>rfl
  | 5,_=>rfl
theorem TierIs.turn {M:Nat→Prop} {w w':World} {bt:Nat} {t:TS} (h:TierIs w bt t) (T:Turn M w w') (hm:¬ M bt):TierIs w' bt t:=⟨(T.block _ h.lt hm).trans h.block⟩
structure TS.Fine (t:TS):Prop where
  d0:0≤t.drift
  d1:t.drift≤500000
  c0:∀ n,0≤t.clk n
  c1:∀ n,t.clk n≤1099511627776
theorem age_any (bt:Nat) (t:TS) (n:Nat) (e:Ent) (w:World) (hT:TierIs w bt t) (hf:t.Fine) (hn:n<6) (he:e.Fine (t.clk n)) :
    Calls Tryz.prog 98 #[.pointer (some ⟨bt,0,none⟩),.int .i64 (n:Int),entV e] w fun r w'=>r= .returned (.int .i64 (ageAt t.drift (t.clk n) e))∧Turn nO w w':=by
 have KC:=hide (fun w=>EntAge_any e (t.clk n) t.drift w he hf.d0 hf.d1)
 have d1:w.cell? ⟨bt,1,none⟩=some (.int .i64 t.drift):=cOf hT.block 1
 have d2:w.cell? ⟨bt,6+n,none⟩=some (.int .i64 (t.clk n)):=hT.clk hn
 generalize ageAt t.drift (t.clk n) e=x at *
 clear he
 obtain ⟨ver,pres,val,base,since⟩:=e
 unfold entV at *
 dsimp only at *
 have i0:(0:Int)≤(n:Int):=by omega
 have i1:(n:Int)<6:=by omega
 generalize t.clk n=c at *
 generalize t.drift=dr at *
 clear hf hT
 go_enter Tryz.func98,Tryz.ntmps98
 go_wp2
 generalize hW:World.alloc _ _=W0
 have T0:Turn nO w W0:=by rw [← hW];exact Turn.alloc _ _ _
 have c0:=T0.cell d1 id
 have c1:=T0.cell d2 id
 have e0:W0.cell? ⟨w.heap.size,0,none⟩=some (.int .i64 ver):=by rw [← hW];simp
 have e1:W0.cell? ⟨w.heap.size,1,none⟩=some (.int .i64 pres):=by rw [← hW];simp
 have e2:W0.cell? ⟨w.heap.size,2,none⟩=some (.string val):=by rw [← hW];simp
 have e3:W0.cell? ⟨w.heap.size,3,none⟩=some (.int .i64 base):=by rw [← hW];simp
 have e4:W0.cell? ⟨w.heap.size,4,none⟩=some (.int .i64 since):=by rw [← hW];simp
 clear hW d1 d2
 have HS:∀ w',Turn nO W0 w'→Turn nO W0 w'∧w'.cell? ⟨bt,1,none⟩=some (.int .i64 dr)∧w'.cell? ⟨bt,6+n,none⟩=some (.int .i64 c)∧w'.cell? ⟨w.heap.size,0,none⟩=some (.int .i64 ver)∧w'.cell? ⟨w.heap.size,1,none⟩=some (.int .i64 pres)∧w'.cell? ⟨w.heap.size,2,none⟩=some (.string val)∧w'.cell? ⟨w.heap.size,3,none⟩=some (.int .i64 base)∧w'.cell? ⟨w.heap.size,4,none⟩=some (.int .i64 since) :=
   fun w' T=>⟨T,T.cell c0 id,T.cell c1 id,T.cell e0 id,T.cell e1 id,T.cell e2 id,T.cell e3 id,T.cell e4 id⟩
 go_region_held3 (fun w'=>Turn nO W0 w'∧w'.cell? ⟨bt,1,none⟩=some (.int .i64 dr)∧w'.cell? ⟨bt,6+n,none⟩=some (.int .i64 c)∧w'.cell? ⟨w.heap.size,0,none⟩=some (.int .i64 ver)∧w'.cell? ⟨w.heap.size,1,none⟩=some (.int .i64 pres)∧w'.cell? ⟨w.heap.size,2,none⟩=some (.string val)∧w'.cell? ⟨w.heap.size,3,none⟩=some (.int .i64 base)∧w'.cell? ⟨w.heap.size,4,none⟩=some (.int .i64 since)) ((go_split_ands;apply HS;all_goals (repeat (first|(with_reducible first|assumption|exact Turn.refl _ _|apply Turn.sA|apply Turn.sD|refine tN ?_ (by assumption))|((with_reducible refine Turn.sS ?_ ?_);rotate_left;· first|exact Or.inr rfl|exact Or.inr (Or.inl rfl)|exact Or.inl (by simp <;> omega))|(with_reducible refine tG ?_ (by assumption))|(with_reducible first|apply There.drew|apply There.set|refine hNo ?_ (by assumption))|assumption)))) (first|(go_at_call 120;refine (uH KC _).mono ?_;rintro e w' ⟨rfl,TC⟩))
 all_goals go_wp2
 all_goals go_ret
 all_goals exact ⟨rfl,T0.sT (by (repeat (first|(with_reducible first|assumption|exact Turn.refl _ _|apply Turn.sA|apply Turn.sD|refine tN ?_ (by assumption))|((with_reducible refine Turn.sS ?_ ?_);rotate_left;· first|exact Or.inr rfl|exact Or.inr (Or.inl rfl)|exact Or.inl (by simp <;> omega))|(with_reducible refine tG ?_ (by assumption))|(with_reducible first|apply There.drew|apply There.set|refine hNo ?_ (by assumption))|assumption))) (fun _ _ h=>h)⟩
theorem hNo {w w':World} {b n:Nat} (h:There w b (n+1)) (g:Turn nO w w'):There w' b (n+1):=h.turn g id
theorem isFresh_any (bt:Nat) (t:TS) (n:Nat) (e:Ent) (w:World) (hT:TierIs w bt t) (hf:t.Fine) (hn:n<6) (he:e.Fine (t.clk n)) :
    Calls Tryz.prog 102 #[.pointer (some ⟨bt,0,none⟩),.int .i64 (n:Int),entV e] w fun r w'=>r= .returned (.bool (decide (ageAt t.drift (t.clk n) e≤t.budget)))∧Turn nO w w':=by
 have KC:=hide (fun w (hT:Hid (TierIs w bt t))=>age_any bt t n e w hT hf hn he)
 have d1:w.cell? ⟨bt,2,none⟩=some (.int .i64 t.budget):=cOf hT.block 2
 generalize ageAt t.drift (t.clk n) e=x at *
 clear he
 obtain ⟨ver,pres,val,base,since⟩:=e
 unfold entV at *
 dsimp only at *
 generalize hbd:t.budget=bd at *
 have HT:=hide hT
 clear hf hT hbd
 go_enter Tryz.func102,Tryz.ntmps102
 go_wp2
 generalize hW:World.alloc _ _=W0
 have T0:Turn nO w W0:=by rw [← hW];exact (Turn.alloc _ _ _)
 have hsz:W0.heap.size=w.heap.size+1:=by rw [← hW];simp
 have x0:∃ ty,W0.heap[w.heap.size]?=some (.cells #[.int .i64 ver,.int .i64 pres,.string val,.int .i64 base,.int .i64 since] ty (0,0)):=by rw [← hW];exact ⟨_,new1_0 _ _⟩
 obtain ⟨x0_0,x0_1,x0_2,x0_3,x0_4⟩:=eC5 x0
 have HT0:=hide ((uH HT).turn T0 id)
 have c0:=T0.cell d1 id
 clear hW d1
 have HS:=fun w' (T:Turn nO W0 w')=>And.intro T (And.intro (T.cell c0 id) (And.intro (T.cell x0_0 id) (And.intro (T.cell x0_1 id) (And.intro (T.cell x0_2 id) (And.intro (T.cell x0_3 id) (And.intro (T.cell x0_4 id) ((show Hid (TierIs w' bt t) from ((uH HT0).turn T id)))))))))
 go_region_held3 (fun w'=>Turn nO W0 w'∧w'.cell? ⟨bt,2,none⟩=some (.int .i64 bd)∧w'.cell? ⟨w.heap.size,0,none⟩=some (.int .i64 ver)∧w'.cell? ⟨w.heap.size,1,none⟩=some (.int .i64 pres)∧w'.cell? ⟨w.heap.size,2,none⟩=some (.string val)∧w'.cell? ⟨w.heap.size,3,none⟩=some (.int .i64 base)∧w'.cell? ⟨w.heap.size,4,none⟩=some (.int .i64 since)∧(Hid (TierIs w' bt t))) ((go_split_ands;apply HS;all_goals (repeat (first|(with_reducible first|assumption|exact Turn.refl _ _|apply Turn.sA|apply Turn.sD|refine tN ?_ (by assumption))|((with_reducible refine Turn.sS ?_ ?_);rotate_left;· first|exact Or.inr rfl|exact Or.inr (Or.inl rfl)|exact Or.inl (by simp <;> omega))|(with_reducible refine tG ?_ (by assumption))|(with_reducible first|apply There.drew|apply There.set|refine hNo ?_ (by assumption))|assumption)))) (first|(go_at_call 98;go_split_ands;refine (uH KC _ (by assumption)).mono ?_;rintro e w' ⟨rfl,TC⟩))
 all_goals go_wp2
 all_goals go_ret
 all_goals exact ⟨rfl,T0.sT (by (repeat (first|(with_reducible first|assumption|exact Turn.refl _ _|apply Turn.sA|apply Turn.sD|refine tN ?_ (by assumption))|((with_reducible refine Turn.sS ?_ ?_);rotate_left;· first|exact Or.inr rfl|exact Or.inr (Or.inl rfl)|exact Or.inl (by simp <;> omega))|(with_reducible refine tG ?_ (by assumption))|(with_reducible first|apply There.drew|apply There.set|refine hNo ?_ (by assumption))|assumption))) (fun _ _ h=>h)⟩
theorem elapsed_any (bt:Nat) (t:TS) (n:Nat) (s:Int) (w:World) (hT:TierIs w bt t) (hf:t.Fine) (hn:n<6) (h0:0≤s) (h1:s≤t.clk n) :
    Calls Tryz.prog 127 #[.pointer (some ⟨bt,0,none⟩),.int .i64 (n:Int),.int .i64 s] w fun r w'=>r= .returned (.int .i64 (elap t.drift (t.clk n - s)))∧Turn nO w w':=by
 have hc1:=hf.c1 n
 have KC:=hide (fun w=>Elapsed_any (t.clk n - s) t.drift w (by omega) (by omega) hf.d0 hf.d1)
 have hw:IntKind.i64.wrap (t.clk n - s)=t.clk n - s:=by rw [IntKind.wrap_i64];omega
 have d1:w.cell? ⟨bt,1,none⟩=some (.int .i64 t.drift):=cOf hT.block 1
 have d2:w.cell? ⟨bt,6+n,none⟩=some (.int .i64 (t.clk n)):=hT.clk hn
 have i0:(0:Int)≤(n:Int):=by omega
 have i1:(n:Int)<6:=by omega
 generalize elap t.drift (t.clk n - s)=x at *
 clear h0 h1 hc1 hf hT
 generalize t.clk n=c at *
 generalize t.drift=dr at *
 go_enter Tryz.func127,Tryz.ntmps127
 go_wp2
 have HS:=fun w' (T:Turn nO w w')=>And.intro T (And.intro (T.cell d1 id) (T.cell d2 id))
 go_region_held3 (fun w'=>Turn nO w w'∧w'.cell? ⟨bt,1,none⟩=some (.int .i64 dr)∧w'.cell? ⟨bt,6+n,none⟩=some (.int .i64 c)) ((go_split_ands;apply HS;all_goals (repeat (first|(with_reducible first|assumption|exact Turn.refl _ _|apply Turn.sA|apply Turn.sD|refine tN ?_ (by assumption))|((with_reducible refine Turn.sS ?_ ?_);rotate_left;· first|exact Or.inr rfl|exact Or.inr (Or.inl rfl)|exact Or.inl (by simp <;> omega))|(with_reducible refine tG ?_ (by assumption))|(with_reducible first|apply There.drew|apply There.set|refine hNo ?_ (by assumption))|assumption)))) (first|(go_at_call 130;refine (uH KC _).mono ?_;rintro e w' ⟨rfl,rfl⟩))
 all_goals go_wp2
 all_goals go_ret
 all_goals exact ⟨rfl,by (repeat (first|(with_reducible first|assumption|exact Turn.refl _ _|apply Turn.sA|apply Turn.sD|refine tN ?_ (by assumption))|((with_reducible refine Turn.sS ?_ ?_);rotate_left;· first|exact Or.inr rfl|exact Or.inr (Or.inl rfl)|exact Or.inl (by simp <;> omega))|(with_reducible refine tG ?_ (by assumption))|(with_reducible first|apply There.drew|apply There.set|refine hNo ?_ (by assumption))|assumption))⟩
end
end Go.Proofs.YtpdkojgepagbnaaGreatDoor
